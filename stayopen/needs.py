"""Errors for arguments that are not what a function needs."""

from stayopen.books import Book
from stayopen.checks import is_place, is_within
from stayopen.errors import BadBook, BadNumber, BadRing
from stayopen.rings import Ring

MOST_CHANGES = 3


def need_book(value, part):
    """Raises BadBook(part) for any value that is no Book."""
    if not isinstance(value, Book):
        raise BadBook(part)


def need_ring(value, part):
    """Raises BadRing(part) for any value that is no Ring."""
    if not isinstance(value, Ring):
        raise BadRing(part)


def need_key(value):
    """Raises BadNumber for any value that is no key."""
    if not is_place(value):
        raise BadNumber(value)


def need_changes(value):
    """Raises BadNumber for any value that is no number of changes at once."""
    if not is_within(value, 1, MOST_CHANGES):
        raise BadNumber(value)
