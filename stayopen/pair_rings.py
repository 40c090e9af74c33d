"""Rings and changes that show rows of pairs of walks, all of them at the key 0."""

from stayopen.errors import OpenError
from stayopen.rings import Ring


def shown_by(ways, row):
    """A ring and changes of it whose walks of the key 0 come to a row; ways as ways_to_rows tells."""
    told = hosts_to(ways, row)
    hosts = [(place, name) for place, name, _ in told if name is not None]
    changes = [change_of(place, name, other) for place, name, other in told if name != other]
    return (Ring(*hosts), tuple(changes))


def hosts_to(ways, row):
    """The hosts that lead to a row: triples of a place and of the classes in both walks."""
    found = []
    way = ways[row]
    while way is not None:
        ahead, name, other = way
        found.append((name, other))
        way = ways[ahead]
    turned = found[::-1]
    return [(at + 1, turned[at][0], turned[at][1]) for at in range(len(turned))]


def change_of(place, name, other):
    """The change of a host that has unlike classes in both walks, None where it is not met."""
    if name is None:
        return ("come", place, other)
    if other is None:
        return ("go", place)
    return ("turn", place, other)


def ring_behind(ring, changes, most):
    """The ring behind a tuple of at most so many changes, None for values that are no such ones."""
    if not isinstance(ring, Ring) or not isinstance(changes, tuple) or len(changes) > most:
        return None
    try:
        return ring.changed_by(changes)
    except OpenError:
        return None
