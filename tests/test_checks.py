"""What any values are: stayopen/checks.py."""

import unittest

from stayopen.books import Book
from stayopen.checks import is_integer, is_name, is_place, is_within
from tests.helpers import STRANGE, Case


class Checks(Case):
    def test_integers(self):
        for value in (0, 1, -1, 10 ** 40, -10 ** 40):
            self.assertIs(is_integer(value), True)
        for value in (True, False, None, "1", (1,), [1], {1: 1}, Book({})):
            self.assertIs(is_integer(value), False)

    def test_within(self):
        self.assertSame([is_within(k, 2, 4) for k in range(6)], [False, False, True, True, True, False])
        for value in (True, None, "3", (3,), [3], Book({})):
            self.assertIs(is_within(value, 0, 5), False)
        self.assertIs(is_within(value=1, least=1, most=1), True)
        self.assertIs(is_within(1, 2, 0), False)

    def test_names(self):
        for value in ("a", "z", "abcdefgh", "nine"):
            self.assertIs(is_name(value), True)
        for value in ("", "abcdefghi", "A", "aB", "a1", "a ", " a", "a\n", "*", "-", None, True, 1, ("a",), ["a"]):
            self.assertIs(is_name(value), False)
        self.assertIs(is_name("\u00e9"), False)
        self.assertIs(is_name(Book({})), False)

    def test_places(self):
        self.assertSame([is_place(k) for k in (-1, 0, 999999999, 1000000000)], [False, True, True, False])
        for value in STRANGE:
            if not isinstance(value, int) or isinstance(value, bool):
                self.assertIs(is_place(value), False)


if __name__ == "__main__":
    unittest.main()
