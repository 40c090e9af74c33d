"""Errors for arguments that are not what a function needs."""

from stayopen.books import Book
from stayopen.errors import BadBook


def need_book(value, part):
    """Raises BadBook(part) for any value that is no Book."""
    if not isinstance(value, Book):
        raise BadBook(part)
