"""Pairs of walks: all rows that come up ahead of some changes of a ring and behind them."""

from stayopen.books import classes
from stayopen.checks import is_integer, is_within
from stayopen.errors import TooMany
from stayopen.needs import need_book, need_changes
from stayopen.tables import table_of
from stayopen.two_walks import BEGINNING, behind_host, first_behinds, second_behinds

MOST_ROWS = 2500
FIRST_ROW = (0, 0, 0, 0, 0, 0)


def rows_of(book, changes=1):
    """The ascending tuple of the rows that come up by so many changes."""
    return tuple(sorted(list(ways_to_rows(book, changes))))


def is_closed(book, table, changes=1):
    """Whether any value is a closed table: rows, the first one and all next rows among them."""
    need_book(book, "book")
    need_changes(changes)
    if not are_rows(book, table, changes):
        return False
    known = {row: True for row in table}
    if FIRST_ROW not in known:
        return False
    names = classes(book)
    behinds = table_of(book.states, names)
    for row in table:
        for ahead, _, _ in rows_next(behinds, names, book.most, changes, row):
            if ahead not in known:
                return False
    return True


def ways_to_rows(book, changes):
    """A dict from the rows that come up to how they do: (row ahead, class, class), None for the first.

    The classes are those of a host ahead of the changes and behind them, as rows_next tells them.
    """
    need_book(book, "book")
    need_changes(changes)
    names = classes(book)
    table = table_of(book.states, names)
    ways = {FIRST_ROW: None}
    found = [FIRST_ROW]
    at = 0
    while at < len(found):
        for ahead, left, right in rows_next(table, names, book.most, changes, found[at]):
            if ahead not in ways:
                ways[ahead] = (found[at], left, right)
                found.append(ahead)
        if len(found) > MOST_ROWS:
            raise TooMany("pairs", MOST_ROWS)
        at += 1
    return ways


def rows_next(table, names, most, changes, row):
    """The next rows of a row, each with the classes of a host that leads there.

    These are two: that of the host in the first walk, and that in the second one; None in a walk
    that does not meet it.
    """
    told = row[:len(BEGINNING)]
    met = row[len(BEGINNING)]
    lefts = first_behinds(table, most, told)
    rights = second_behinds(table, most, told)
    found = []
    for at in range(len(names)):
        if lefts[at] is not None or rights[at] is not None:
            found.append((behind_host(told, lefts[at], rights[at]) + (met,), names[at], names[at]))
    if met == changes:
        return found
    for left, name in odd_hosts(names, lefts):
        for right, other in odd_hosts(names, rights):
            if name is not None or other is not None:
                found.append((behind_host(told, left, right) + (met + 1,), name, other))
    return found


def odd_hosts(names, behinds):
    """What a walk can do with an odd host: the unlike states behind it, each with a class for it."""
    classes_of = {None: None}
    for at in range(len(names)):
        if behinds[at] not in classes_of:
            classes_of[behinds[at]] = names[at]
    return [(behind, classes_of[behind]) for behind in classes_of]


def are_rows(book, value, changes):
    """Whether any value is a tuple of unlike rows of a book, ascending."""
    if not isinstance(value, tuple):
        return False
    many = len(book.states)
    if not all([is_row(many, book.most, changes, row) for row in value]):
        return False
    return all([value[at] < value[at + 1] for at in range(len(value) - 1)])


def is_row(many, most, changes, value):
    """Whether any value is a row of a book of so many states, within all bounds."""
    if not isinstance(value, tuple) or len(value) != len(FIRST_ROW):
        return False
    if not all([is_integer(part) and part >= 0 for part in value]):
        return False
    state, other, x, y, z, met = value
    if state >= many or other >= many:
        return False
    return x + z <= most and y + z <= most and is_within(met, 0, changes)
