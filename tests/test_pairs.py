"""Rows of pairs of walks: stayopen/pairs.py."""

import unittest

from stayopen.bears import bears, frontier, greatest_sum, price
from stayopen.books import Book
from stayopen.errors import BadBook, BadNumber, TooMany
from stayopen.leaps import leaps, most_gone
from stayopen.pairs import is_closed, rows_of
from stayopen.steady import steady
from tests.helpers import STRANGE, Case
from tests.leap_models import AT_THE_BOUND, BOOKS, LATE, all_rows, book_at, next_rows, some_books

PAIR = Book({"": 0}, most=2)
BAD_CHANGES = [value for value in (*STRANGE, 0, 4, (1, 2), "1") if value != 1 or isinstance(value, bool)]


class Rows(Case):
    def test_rows(self):
        for book in (*BOOKS, *some_books(25)):
            for changes in (1, 2, 3):
                wanted = all_rows(book, changes)
                if len(wanted) <= 2500:
                    self.assertSame(rows_of(book, changes), tuple(sorted(wanted)))
                else:
                    self.assertRaisesJust(TooMany("pairs", 2500), rows_of, book, changes)

    def test_edges(self):
        self.assertSame(rows_of(Book({}), 3), ((0, 0, 0, 0, 0, 0),))
        self.assertSame(rows_of(Book({"a": None}, most=5)), ((0, 0, 0, 0, 0, 0),))
        chain = Book(*[{"": min(k + 1, 63)} for k in range(64)], most=5)
        self.assertSame(rows_of(chain), tuple(sorted(all_rows(chain, 1))))
        self.assertSame(rows_of(book=PAIR, changes=1), rows_of(PAIR))
        eight = Book({name: k % 3 for k, name in enumerate("abcdefgh")}, {"": 0}, {"h": 2}, most=2)
        self.assertSame(rows_of(eight), tuple(sorted(all_rows(eight, 1))))

    def test_just_as_many_as_are_let_and_one_more(self):
        for number, (many, changes, _) in enumerate(AT_THE_BOUND):
            book = book_at(number)
            self.assertEqual(len(all_rows(book, changes)), many)
            if many == 2500:
                self.assertEqual(len(rows_of(book, changes)), many)
            else:
                for work in (rows_of, leaps, most_gone, frontier, price):
                    self.assertRaisesJust(TooMany("pairs", 2500), work, book, changes)
                for work in (bears, greatest_sum):
                    self.assertRaisesJust(TooMany("pairs", 2500), work, book, 1, 1, changes)
                    self.assertRaisesJust(TooMany("pairs", 2500), work, book, 5, 5, changes)
        self.assertRaisesJust(TooMany("pairs", 2500), steady, book_at(1))

    def test_errors(self):
        for value in STRANGE:
            self.assertRaisesJust(BadBook("book"), rows_of, value, value)
        for value in BAD_CHANGES:
            for work in (rows_of, leaps, most_gone, frontier, price):
                self.assertRaisesJust(BadNumber(value), work, PAIR, value)
                self.assertRaisesJust(BadNumber(value), work, book_at(1), value)


class Closed(Case):
    def test_rows_that_come_up(self):
        for book in (*BOOKS, *some_books(12, most=2)):
            for changes in (1, 2):
                table = rows_of(book, changes)
                self.assertIs(is_closed(book, table, changes), True)
                self.assertIs(is_closed(book=book, changes=changes, table=list(table)), False)
                for at in range(len(table)):
                    # Each row but the first one is a next row of another one.
                    self.assertIs(is_closed(book, table[:at] + table[at + 1:], changes), False)

    def test_rows_that_never_come_up(self):
        book = Book({"a": 1}, {"a": 0}, {"b": 2}, most=2)
        closed = {*all_rows(book, 1)}
        fresh = [(2, 1, 0, 0, 1, 0)]
        while fresh:
            row = fresh.pop()
            closed.add(row)
            fresh.extend(next_rows(book, 1, row) - closed)
        table = tuple(sorted(closed))
        self.assertGreater(len(table), len(rows_of(book)))
        self.assertIs(is_closed(book, table), True)
        for row in closed - all_rows(book, 1):
            self.assertIs(is_closed(book, tuple(sorted(closed - {row}))), row == (2, 1, 0, 0, 1, 0))

    def test_tables_of_other_books_and_changes(self):
        table = rows_of(PAIR, 2)
        self.assertIs(is_closed(PAIR, table, 2), True)
        self.assertIs(is_closed(PAIR, table, 1), False)
        self.assertIs(is_closed(PAIR, table, 3), False)
        self.assertIs(is_closed(PAIR, rows_of(PAIR), 2), False)
        self.assertIs(is_closed(Book({"": 0}, most=1), rows_of(PAIR)), False)
        self.assertIs(is_closed(Book({"": 0}, most=3), rows_of(PAIR)), False)
        self.assertIs(is_closed(LATE, rows_of(PAIR)), False)
        # A table is that of all books that do alike in its states.
        self.assertIs(is_closed(Book({"a": 0, "": 0}, {"b": 1}, most=2), rows_of(PAIR)), True)

    def test_more_rows(self):
        """A row more that leads to no other one: only its own bounds count."""
        full = (0, 0, 0, 0, 2, 0)
        table = rows_of(PAIR)
        self.assertIn(full, table)
        book = Book({"": 0}, {}, most=2)
        for row, wanted in (((1, 1, 0, 0, 0, 0), True), ((1, 1, 2, 2, 0, 1), True), ((1, 1, 0, 0, 2, 1), True),
                            ((1, 1, 1, 0, 2, 0), False), ((1, 1, 0, 1, 2, 0), False), ((1, 1, 0, 0, 3, 0), False),
                            ((1, 1, 0, 0, 0, 2), False), ((1, 1, 0, 0, 0, -1), False), ((1, 1, -1, 0, 0, 0), False),
                            ((1, 1, 0, -1, 0, 0), False), ((1, 1, 1, 1, -1, 0), False), ((2, 1, 0, 0, 0, 0), False),
                            ((1, 2, 0, 0, 0, 0), False), ((-1, 1, 0, 0, 0, 0), False), ((1, -1, 0, 0, 0, 0), False),
                            ((True, 1, 0, 0, 0, 0), False), ((1, 1, 0, 0, 0, True), False), ((1, 1, 0, 0, 0), False),
                            ((1, 1, 0, 0, 0, 0, 0), False), ([1, 1, 0, 0, 0, 0], False), ((1, 1, 0, 0, 0, None), False),
                            ((1, 1, 0, 0, 0, "0"), False), ((1, 10 ** 40, 0, 0, 0, 0), False)):
            self.assertIs(is_closed(book, (*table, row)), wanted, row)
        self.assertIs(is_closed(book, ((1, 1, 0, 0, 0, 0), *table)), False)
        self.assertIs(is_closed(book, (*table, (1, 1, 0, 0, 0, 0), (1, 1, 0, 0, 0, 0))), False)
        self.assertIs(is_closed(Book({}), ()), False)
        self.assertIs(is_closed(Book({}, {}), ((1, 1, 0, 0, 0, 0),)), False)
        self.assertIs(is_closed(Book({}), ((0, 0, 0, 0, 0, 0),)), True)
        self.assertIs(is_closed(Book({}), ((False, 0, 0, 0, 0, 0),)), False)

    def test_errors_and_strange_values(self):
        for value in (*STRANGE, PAIR):
            self.assertIs(is_closed(PAIR, value), False)
            self.assertIs(is_closed(PAIR, (value,)), False)
            self.assertIs(is_closed(PAIR, ((0, 0, 0, 0, 0, 0), value)), False)
            self.assertIs(is_closed(PAIR, ((0, 0, 0, 0, 0, value),)), False)
        for value in STRANGE:
            self.assertRaisesJust(BadBook("book"), is_closed, value, None, value)
        for value in BAD_CHANGES:
            self.assertRaisesJust(BadNumber(value), is_closed, PAIR, None, value)


if __name__ == "__main__":
    unittest.main()
