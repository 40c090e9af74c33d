"""Which keys move from one ring to another."""

from stayopen.arcs import arcs_of_both
from stayopen.needs import need_book, need_ring
from stayopen.stretches import joined


def moves(book, one, other):
    """The tuple of the quadruples (first, last, gone, new) of the keys whose copies differ."""
    moved = [(first, last, told) for first, last, told in changed_arcs(book, one, other) if told != ((), ())]
    return tuple([(first, last, told[0], told[1]) for first, last, told in joined(moved)])


def keys_moved(book, one, other):
    """How many keys have other copies in the one ring than in the other."""
    return sum([last - first + 1 for first, last, _, _ in moves(book, one, other)])


def keys_new(book, one, other):
    """A dict from the hosts of other to the number of keys of which each is a copy only there."""
    told = changed_arcs(book, one, other)
    found = {place: 0 for place, _ in other}
    for first, last, (_, new) in told:
        for place in new:
            found[place] = found[place] + last - first + 1
    return found


def changed_arcs(book, one, other):
    """Rows (first, last, (gone, new)) of all keys, by the copies in two rings."""
    need_book(book, "book")
    need_ring(one, "one")
    need_ring(other, "other")
    rows = []
    for first, last, ours, theirs in arcs_of_both(book, one, other):
        gone = tuple(sorted([place for place in ours if place not in theirs]))
        new = tuple(sorted([place for place in theirs if place not in ours]))
        rows.append((first, last, (gone, new)))
    return rows
