"""Lots: how many copies hear, keep and sweep, and how many a shut key can spare."""

from stayopen.checks import is_within
from stayopen.errors import BadLots
from stayopen.needs import need_book

MOST_LOT = 5


class Lots:
    """The four numbers read, keep, sweep and spare of a store."""

    def __init__(self, read, keep, sweep=None, spare=None):
        check_lots(read, keep, sweep, spare)
        self.read = read
        self.keep = keep
        self.sweep = keep if sweep is None else sweep
        self.spare = min(self.read, self.keep, self.sweep) - 1 if spare is None else spare
        self.numbers = (self.read, self.keep, self.sweep, self.spare)

    def __eq__(self, other):
        return isinstance(other, Lots) and self.numbers == other.numbers

    def __str__(self):
        return " ".join([str(number) for number in self.numbers])


def is_idle(book, lots):
    """Whether read or keep is above the room of a book, so that no ask ever ends."""
    need_book(book, "book")
    need_lots(lots)
    return max(lots.read, lots.keep) > book.room


def need_lots(value):
    """Raises BadLots for any value that is no Lots."""
    if not isinstance(value, Lots):
        raise BadLots("lots")


def need_read_and_keep(read, keep):
    """Raises BadLots for the first of two values that is no number of a read or a keep lot."""
    if not is_within(read, 1, MOST_LOT):
        raise BadLots("read")
    if not is_within(keep, 1, MOST_LOT):
        raise BadLots("keep")


def check_lots(read, keep, sweep, spare):
    """Raises BadLots with the first part of lots that is wrong."""
    need_read_and_keep(read, keep)
    if sweep is not None and not is_within(sweep, 1, MOST_LOT):
        raise BadLots("sweep")
    if spare is not None and not is_within(spare, 0, MOST_LOT - 1):
        raise BadLots("spare")
