"""Steady books: one change replaces at most one copy of a key."""

from stayopen.copied import copied
from stayopen.leaps import leap_between
from stayopen.needs import need_book
from stayopen.pair_rings import ring_behind, shown_by
from stayopen.pairs import is_closed, ways_to_rows
from stayopen.verdicts import Verdict


class Steady(Verdict):
    """The closed table of a book that is steady."""

    def __init__(self, table):
        self.table = copied(table)

    def __bool__(self):
        return True

    def __eq__(self, other):
        return isinstance(other, Steady) and self.table == other.table


class Leaping(Verdict):
    """A ring and one change of it that replaces more than one copy of the key 0."""

    def __init__(self, ring, change):
        self.ring = copied(ring)
        self.change = copied(change)

    def __bool__(self):
        return False

    def __eq__(self, other):
        return isinstance(other, Leaping) and self.ring == other.ring and self.change == other.change


def steady(book):
    """Whether one change replaces at most one copy of a key: a Steady or a Leaping."""
    ways = ways_to_rows(book, 1)
    far = [row for row in ways if is_far(row[2], row[3])]
    if len(far) == 0:
        return Steady(tuple(sorted(list(ways))))
    # A row with unlike copies has met a host that changes, so the one change is there.
    ring, changes = shown_by(ways, far[0])
    return Leaping(ring, changes[0])


def shows_steady(book, value):
    """Whether any value is a right Steady or Leaping of a book."""
    need_book(book, "book")
    if isinstance(value, Steady):
        return is_closed(book, value.table) and not any([is_far(row[2], row[3]) for row in value.table])
    if not isinstance(value, Leaping):
        return False
    behind = ring_behind(value.ring, (value.change,), 1)
    if behind is None:
        return False
    x, y, _ = leap_between(book, value.ring, behind, 0)
    return is_far(x, y)


def is_far(x, y):
    """Whether so many copies gone, or so many new ones, are more than one."""
    return x > 1 or y > 1
