"""What a play of the store begins with."""

from stayopen.errors import BadCare
from stayopen.lots import need_lots
from stayopen.needs import need_book, need_changes, need_ring


class Store:
    """A ring, a book, lots, the cares that are left out, and how many changes a begin has at most."""

    CARES = ("back", "early", "names", "number", "older", "stamp")

    def __init__(self, ring, book, lots, cares=(), changes=1):
        need_ring(ring, "ring")
        need_book(book, "book")
        need_lots(lots)
        need_cares(cares)
        need_changes(changes)
        self.ring = ring
        self.book = book
        self.lots = lots
        self.cares = tuple(sorted(list(cares)))
        self.changes = changes

    def __eq__(self, other):
        if not isinstance(other, Store):
            return False
        if self.ring != other.ring or self.book != other.book or self.lots != other.lots:
            return False
        return self.cares == other.cares and self.changes == other.changes


def need_cares(cares):
    """Raises BadCare for what is no list or tuple, and for the first of it that is no further care."""
    if not isinstance(cares, (list, tuple)):
        raise BadCare(cares)
    found = []
    for care in cares:
        if care not in Store.CARES or care in found:
            raise BadCare(care)
        found.append(care)
