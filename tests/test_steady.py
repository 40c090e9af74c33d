"""Steady books: stayopen/steady.py."""

import unittest

from stayopen.books import Book
from stayopen.errors import BadBook
from stayopen.leaps import most_gone
from stayopen.pairs import rows_of
from stayopen.quotas import Quotas
from stayopen.rings import Ring
from stayopen.steady import Leaping, Steady, shows_steady, steady
from stayopen.walks import copies
from tests.helpers import STRANGE, Case
from tests.leap_models import BOOKS, CROSS, LATE, all_rows, book_at, some_books

PAIR = Book({"": 0}, most=2)
LAST = 999999999


class Tells(Case):
    def test_steady(self):
        seen = set()
        for book in (*BOOKS, *some_books(40)):
            if len(all_rows(book, 1)) > 2500:
                continue
            told, is_steady = steady(book), most_gone(book) <= 1
            seen.add(is_steady)
            self.assertIs(bool(told), is_steady)
            self.assertIs(shows_steady(book, told), True)
            if is_steady:
                self.assertSame(vars(told), {"table": rows_of(book)})
            else:
                self.assertIs(type(told), Leaping)
                ahead = set(copies(book, told.ring, 0))
                behind = set(copies(book, told.ring.changed(told.change), 0))
                self.assertGreater(max(len(ahead - behind), len(behind - ahead)), 1)
        self.assertEqual(seen, {True, False})

    def test_nested_quotas_are_steady(self):
        for quotas in (Quotas((1, ("a",)), (2, ("a", "b")), most=3), Quotas((1, ("",)), (1, ("a",)), most=5), Quotas()):
            self.assertIs(bool(steady(quotas.as_book())), True)
        self.assertIs(bool(steady(Quotas((1, ("a", "b")), (1, ("b", "c")), most=2).as_book())), False)

    def test_errors(self):
        for value in STRANGE:
            self.assertRaisesJust(BadBook("book"), steady, value)
            for paper in (steady(PAIR), steady(CROSS), None):
                self.assertRaisesJust(BadBook("book"), shows_steady, value, paper)

    def test_the_bound_of_rows(self):
        told = steady(book_at(0))
        self.assertIs(shows_steady(book_at(0), told), True)


class Shows(Case):
    def test_tables(self):
        table = rows_of(PAIR)
        self.assertIs(shows_steady(PAIR, Steady(table)), True)
        for at in range(len(table)):
            self.assertIs(shows_steady(PAIR, Steady(table[:at] + table[at + 1:])), False)
        self.assertIs(shows_steady(PAIR, Steady(list(table))), False)
        self.assertIs(shows_steady(PAIR, Steady(rows_of(PAIR, 2))), False)
        self.assertIs(shows_steady(CROSS, Steady(rows_of(CROSS))), False)
        self.assertIs(shows_steady(LATE, Steady(rows_of(LATE))), False)
        # A closed table can have a row more; a row that leaps is not let, though it never comes up.
        book = Book({"": 0}, {}, most=2)
        self.assertIs(shows_steady(book, Steady((*rows_of(book), (1, 1, 1, 1, 0, 1)))), True)
        self.assertIs(shows_steady(book, Steady((*rows_of(book), (1, 1, 2, 1, 0, 1)))), False)
        self.assertIs(shows_steady(book, Steady((*rows_of(book), (1, 1, 1, 2, 0, 1)))), False)

    def test_rings(self):
        corners = Ring((1, "ac"), (2, "bc"), (3, "bd"), (4, "ad"))
        come = Ring((2, "bc"), (3, "bd"), (4, "ad"))
        for ring, change, wanted in ((corners, ("go", 1), True), (corners >> 50, ("go", 51), True),
                                     (corners, ("turn", 1, "q"), True), (come, ("come", 0, "ac"), True),
                                     (corners, ("go", 2), False), (corners, ("go", 5), False),
                                     (corners, ("come", 1, "a"), False), (corners, (("go", 1),), False),
                                     (corners, ["go", 1], False), (corners, "go", False), (Ring(), ("go", 1), False),
                                     (list(corners), ("go", 1), False), (corners, None, False)):
            self.assertIs(shows_steady(CROSS, Leaping(ring, change)), wanted, change)
        self.assertIs(shows_steady(PAIR, Leaping(corners, ("go", 1))), False)
        # The host at the key's own place comes first.
        self.assertIs(shows_steady(CROSS, Leaping(corners >> -1, ("go", 0))), True)
        self.assertIs(shows_steady(CROSS, Leaping(corners >> -2, ("go", LAST))), False)
        # Only gone copies above one, and only new ones: both are enough.
        row = Ring((1, "x"), (2, "r"), (3, "x"), (4, "x"))
        self.assertIs(shows_steady(LATE, Leaping(row, ("go", 1))), True)
        self.assertIs(shows_steady(LATE, Leaping(row - 1, ("come", 1, "x"))), True)

    def test_strange_values(self):
        corners = Ring((1, "ac"), (2, "bc"), (3, "bd"), (4, "ad"))
        for value in (*STRANGE, PAIR, rows_of(PAIR)):
            self.assertIs(shows_steady(PAIR, value), False)
            self.assertIs(shows_steady(PAIR, Steady(value)), value == rows_of(PAIR))
            self.assertIs(shows_steady(CROSS, Leaping(value, ("go", 1))), False)
            self.assertIs(shows_steady(CROSS, Leaping(corners, value)), False)


if __name__ == "__main__":
    unittest.main()
