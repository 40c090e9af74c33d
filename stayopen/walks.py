"""Walks of keys through the hosts of a ring, and the copies that a book takes of them."""

from stayopen.needs import need_book, need_key, need_ring
from stayopen.tables import behind_in


def walk(ring, key):
    """Generates the pairs (place, class) of all hosts, in the order of the walk of a key."""
    need_ring(ring, "ring")
    need_key(key)
    yield from hosts_from(list(ring), key)


def copies(book, ring, key):
    """The tuple of the places of the copies of a key, in the order of the walk."""
    return tuple([place for place, _, taken in met(book, ring, key) if taken])


def met(book, ring, key):
    """For each host of the walk its place, the state that meets it, and whether it is taken."""
    need_book(book, "book")
    need_ring(ring, "ring")
    need_key(key)
    return tuple(hosts_met(book.states, book.most, hosts_from(list(ring), key)))


def hosts_from(hosts, key):
    """Some hosts, told by ascending places, in the order of the walk of a key."""
    return [host for host in hosts if host[0] >= key] + [host for host in hosts if host[0] < key]


def hosts_met(states, most, hosts):
    """For each host of a walk its place, the state that meets it, and whether it is taken."""
    state = 0
    many = 0
    told = []
    for place, name in hosts:
        behind = None if many == most else behind_in(states[state], name)
        told.append((place, state, behind is not None))
        if behind is not None:
            state = behind
            many += 1
    return told


def places_taken(states, most, hosts):
    """The tuple of the places of the hosts of a walk that are taken."""
    return tuple([place for place, _, taken in hosts_met(states, most, hosts) if taken])
