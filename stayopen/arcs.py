"""Which keys have which copies on a ring."""

from stayopen.errors import NoHost
from stayopen.needs import need_book, need_ring
from stayopen.stretches import joined, stretches_to
from stayopen.walks import hosts_from, places_taken


def arcs(book, ring):
    """The tuple of all triples (first, last, copies), ascending, of neighbours with unlike copies."""
    need_book(book, "book")
    need_ring(ring, "ring")
    return tuple(joined(arcs_of(book, ring, [place for place, _ in ring])))


def keys_of(book, ring, place):
    """The tuple of the stretches of the keys of which the host at a place is a copy."""
    told = arcs(book, ring)
    if place not in ring:
        raise NoHost(place)
    rows = [(first, last, True) for first, last, taken in told if place in taken]
    return tuple([(first, last) for first, last, _ in joined(rows)])


def loads(book, ring):
    """A dict from the places of all hosts to the number of keys of which each is a copy."""
    told = arcs(book, ring)
    found = {place: 0 for place, _ in ring}
    for first, last, taken in told:
        for place in taken:
            found[place] = found[place] + last - first + 1
    return found


def arcs_of(book, ring, places):
    """The copies on a ring of the stretches of keys that end at some ascending places."""
    states = book.states
    hosts = list(ring)
    rows = []
    for first, last in stretches_to(places):
        rows.append((first, last, places_taken(states, book.most, hosts_from(hosts, first))))
    return rows


def arcs_of_both(book, one, other):
    """Rows (first, last, copies, copies) of the copies on two rings, of stretches that end at a host of either."""
    places = sorted(set([place for place, _ in [*one, *other]]))
    ahead = arcs_of(book, one, places)
    behind = arcs_of(book, other, places)
    return [(ahead[at][0], ahead[at][1], ahead[at][2], behind[at][2]) for at in range(len(ahead))]
