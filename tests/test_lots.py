"""Lots: stayopen/lots.py."""

import itertools
import unittest

from stayopen.books import Book
from stayopen.errors import BadBook, BadLots
from stayopen.lots import Lots, is_idle
from tests.helpers import STRANGE, Case

# Values that are no number from 1 to 5.
NO_LOTS = [*STRANGE, 0, 6, "3", (3,), 10 ** 41]


class Making(Case):
    def test_all_numbers(self):
        for numbers in itertools.product(range(1, 6), range(1, 6), range(1, 6), range(5)):
            lots = Lots(*numbers)
            read, keep, sweep, spare = numbers
            self.assertSame(vars(lots), {"read": read, "keep": keep, "sweep": sweep, "spare": spare, "numbers": numbers})
            self.assertEqual(str(lots), " ".join(map(str, numbers)))

    def test_parts_that_are_left_out(self):
        for read, keep, sweep in itertools.product(range(1, 6), range(1, 6), (None, 1, 2, 3, 4, 5)):
            swept = keep if sweep is None else sweep
            least = min(read, keep, swept) - 1
            for spare in (None, 0, 4):
                wanted = (read, keep, swept, least if spare is None else spare)
                self.assertSame(Lots(read, keep, sweep, spare).numbers, wanted)
                self.assertSame(Lots(spare=spare, sweep=sweep, keep=keep, read=read).numbers, wanted)
            self.assertSame(Lots(read, keep, sweep).numbers, (read, keep, swept, least))
        self.assertSame(Lots(3, 2).numbers, (3, 2, 2, 1))
        self.assertSame(Lots(1, 5, spare=4).numbers, (1, 5, 5, 4))

    def test_errors(self):
        for value in NO_LOTS:
            self.assertRaisesJust(BadLots("read"), Lots, value, value, value, value)
            self.assertRaisesJust(BadLots("keep"), Lots, 1, value, value, value)
            if value is not None:
                self.assertRaisesJust(BadLots("sweep"), Lots, 5, 5, value, value)
                if value != 0 or value is False:
                    self.assertRaisesJust(BadLots("spare"), Lots, 1, 5, 1, value)
        self.assertRaisesJust(BadLots("spare"), Lots, 5, 5, 5, 5)
        self.assertRaisesJust(BadLots("spare"), Lots, 5, 5, 5, -1)

    def test_equality(self):
        told = list(itertools.product((1, 2), (1, 2), (1, 2), (0, 1)))
        for one, other in itertools.product(told, told):
            self.assertIs(Lots(*one) == Lots(*other), one == other)
            self.assertIs(Lots(*one) != Lots(*other), one != other)
        self.assertIs(Lots(2, 3) == Lots(2, 3, 3, 1), True)
        for value in (*STRANGE, (2, 3, 3, 1), "2 3 3 1", Book({})):
            self.assertIs(Lots(2, 3) == value, False)
            self.assertIs(Lots(2, 3) != value, True)


class Idle(Case):
    def test_idle(self):
        for room in range(1, 6):
            book = Book({"": 0}, most=room)
            for read, keep in itertools.product(range(1, 6), range(1, 6)):
                for sweep, spare in ((1, 0), (5, 4)):
                    self.assertIs(is_idle(book, Lots(read, keep, sweep, spare)), read > room or keep > room)
        self.assertIs(is_idle(Book({}, most=5), Lots(1, 1)), True)
        self.assertIs(is_idle(lots=Lots(2, 2), book=Book({"a": 1}, {"b": 2}, {}, most=5)), False)

    def test_errors(self):
        for value in (*STRANGE, (2, 3, 3, 1)):
            self.assertRaisesJust(BadBook("book"), is_idle, value, value)
            self.assertRaisesJust(BadLots("lots"), is_idle, Book({}), value)


if __name__ == "__main__":
    unittest.main()
