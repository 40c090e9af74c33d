"""A looker for leaps: it goes along the table and the rings, and searches nothing."""

from stayopen.checks import is_integer
from stayopen.leaps import Leaps, leap_between, leap_of
from stayopen.needs import need_book, need_changes
from stayopen.pair_rings import ring_behind
from stayopen.pairs import is_closed


def shows_leaps(book, value, changes=1):
    """Whether any value is a Leaps of a closed table, with just its triples, each of them shown."""
    need_book(book, "book")
    need_changes(changes)
    if not isinstance(value, Leaps) or not is_closed(book, value.table, changes):
        return False
    triples = value.triples
    if not isinstance(triples, dict) or not all([is_triple(key) for key in triples]):
        return False
    if sorted(list(triples)) != sorted({leap_of(row) for row in value.table}):
        return False
    return all([is_shown(book, triple, triples[triple], changes) for triple in triples])


def is_triple(value):
    """Whether any value is a tuple of three integers."""
    return isinstance(value, tuple) and len(value) == 3 and all([is_integer(part) for part in value])


def is_shown(book, triple, value, changes):
    """Whether any value is a pair of a ring and of changes that show a triple at the key 0."""
    if not isinstance(value, tuple) or len(value) != 2:
        return False
    ring = value[0]
    behind = ring_behind(ring, value[1], changes)
    return behind is not None and leap_between(book, ring, behind, 0) == triple
