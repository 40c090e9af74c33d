"""Leaps: how many copies of a key some changes of a ring can replace."""

from stayopen.copied import copied
from stayopen.needs import need_book, need_key, need_ring
from stayopen.pair_rings import shown_by
from stayopen.pairs import rows_of, ways_to_rows
from stayopen.walks import copies


class Leaps:
    """All leaps of a book, each with a ring and changes that show it, and the closed table."""

    def __init__(self, triples, table):
        self.triples = copied(triples)
        self.table = copied(table)

    def __eq__(self, other):
        return isinstance(other, Leaps) and self.triples == other.triples and self.table == other.table


def leaps(book, changes=1):
    """All leaps of a book by so many changes: a Leaps."""
    ways = ways_to_rows(book, changes)
    rows = {}
    for row in ways:
        triple = leap_of(row)
        if triple not in rows:
            rows[triple] = row
    triples = {triple: shown_by(ways, rows[triple]) for triple in sorted(list(rows))}
    return Leaps(triples, tuple(sorted(list(ways))))


def leap_at(book, ring, key, *changes):
    """How many copies of a key are none behind the changes, how many are new, how many are both."""
    need_book(book, "book")
    need_ring(ring, "ring")
    need_key(key)
    return leap_between(book, ring, ring.changed_by(changes), key)


def most_gone(book, changes=1):
    """The greatest number of copies of a key that so many changes can take away."""
    return max([row[2] for row in rows_of(book, changes)])


def leap_of(row):
    """The triple (x, y, z) of a row of a pair of walks."""
    return row[2:5]


def leap_between(book, one, other, key):
    """The triple of a key from one ring to another one."""
    ahead = copies(book, one, key)
    behind = copies(book, other, key)
    both = len([place for place in ahead if place in behind])
    return (len(ahead) - both, len(behind) - both, both)
