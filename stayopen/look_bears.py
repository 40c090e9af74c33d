"""A looker for what a book bears: it goes along tables and copies, and searches nothing."""

from stayopen.bears import Bears, Breaks, is_breaking
from stayopen.leaps import leap_of
from stayopen.lots import need_read_and_keep
from stayopen.needs import need_book, need_changes
from stayopen.pair_rings import ring_behind
from stayopen.pairs import is_closed
from stayopen.same import is_lot_of
from stayopen.walks import copies


def shows_bears(book, read, keep, value, changes=1):
    """Whether any value is a Bears or a Breaks that is right of a book and of these lots."""
    need_book(book, "book")
    need_read_and_keep(read, keep)
    need_changes(changes)
    if isinstance(value, Bears):
        if not is_closed(book, value.table, changes):
            return False
        return not any([is_breaking(leap_of(row), read, keep) for row in value.table])
    if not isinstance(value, Breaks):
        return False
    behind = ring_behind(value.ring, value.changes, changes)
    if behind is None:
        return False
    if not is_lot_of(copies(book, behind, 0), keep, value.kept):
        return False
    if not is_lot_of(copies(book, value.ring, 0), read, value.heard):
        return False
    return not any([place in value.heard for place in value.kept])
