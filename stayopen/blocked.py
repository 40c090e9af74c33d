"""What fallen hosts stop of the settling of a change."""

from stayopen.arcs import arcs_of_both
from stayopen.errors import NoHost
from stayopen.lots import need_lots
from stayopen.needs import need_book, need_ring
from stayopen.stretches import joined


def blocked(book, one, other, lots, *fallen):
    """The stretches of the keys that these fallen hosts stop for ever, each with a word."""
    need_book(book, "book")
    need_ring(one, "one")
    need_ring(other, "other")
    need_lots(lots)
    for place in fallen:
        if place not in one and place not in other:
            raise NoHost(place)
    rows = []
    for first, last, ahead, behind in arcs_of_both(book, one, other):
        rows.append((first, last, what_stops(ahead, behind, lots, fallen)))
    return tuple([row for row in joined(rows) if row[2] is not None])


def what_stops(ahead, behind, lots, fallen):
    """What stops keys of these copies in two epochs: a word, or None."""
    if len([place for place in ahead if place in fallen]) > lots.spare:
        return "shut"
    standing = [place for place in behind if place not in fallen]
    if sorted(ahead) != sorted(behind) and len(standing) < lots.sweep:
        return "sweep"
    return None
