"""Chances: how many of the orders of some hosts, by how many there are.

Hosts of one class do alike, so orders are counted by what is left of each
class. Ways are a dict from pairs (left, row) to the number of the orders of
the hosts ahead that lead there: left tells how many hosts of each class are
still to come, row the state and the copies of the walk.
"""

from math import gcd

from stayopen.checks import is_name
from stayopen.errors import BadName, TooMany
from stayopen.needs import need_book
from stayopen.tables import row_behind

MOST_ORDERED = 8


def lowest(top, bottom):
    """A chance as a pair in lowest terms."""
    common = gcd(top, bottom)
    return (top // common, bottom // common)


def check_ordered(book, names):
    """Raises the errors of functions of a book and of hosts of some classes."""
    check_classes(book, names)
    check_many(len(names))


def check_classes(book, names):
    """Raises the errors for what is no book, and for the first value that is no name."""
    need_book(book, "book")
    for name in names:
        if not is_name(name):
            raise BadName(name)


def check_many(many):
    """Raises TooMany for more hosts than can be put in all orders."""
    if many > MOST_ORDERED:
        raise TooMany("hosts", MOST_ORDERED)


def hosts_next(table, most, ways):
    """All that can come next: (class, ways, what is left behind it, row, row behind or None)."""
    found = []
    for left, row in ways:
        for at in range(len(left)):
            if left[at] > 0:
                many = ways[(left, row)] * left[at]
                fewer = tuple([left[k] - 1 if k == at else left[k] for k in range(len(left))])
                found.append((at, many, fewer, row, row_behind(table, most, row, at)))
    return found


def ways_behind(hosts):
    """The ways behind all that came next."""
    ways = {}
    for _, many, left, row, behind in hosts:
        place = (left, row if behind is None else behind)
        ways[place] = ways.get(place, 0) + many
    return ways
