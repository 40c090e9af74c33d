"""Chances of moves over all orders: stayopen/moved.py."""

import itertools
import unittest
from fractions import Fraction

from stayopen.books import Book
from stayopen.errors import BadBook, BadName, TooMany
from stayopen.moved import moved_chances, turned_chances
from stayopen.quotas import Quotas
from tests import models
from tests.helpers import STRANGE, Case
from tests.leap_models import CROSS, LATE


def taken(book, hosts):
    """The numbers of the hosts that are taken, of pairs (number, class)."""
    told = book.takes(*[name for _, name in hosts])
    return {number for (number, _), is_taken in zip(hosts, told) if is_taken}


def chances(book, one, other, names):
    """The chances of the pairs (x, y), by all orders of the hosts and of the changing one."""
    found, many = {}, 0
    hosts = [*enumerate(names), (None, None)]
    for order in itertools.permutations(hosts):
        ahead = [(at, one if at is None else name) for at, name in order if at is not None or one is not None]
        behind = [(at, other if at is None else name) for at, name in order]
        first, second = taken(book, ahead), taken(book, behind)
        pair = (len(first - second), len(second - first))
        found[pair] = found.get(pair, 0) + 1
        many += 1
    told = {pair: Fraction(found[pair], many) for pair in sorted(found)}
    return {pair: (share.numerator, share.denominator) for pair, share in told.items()}


class Moved(Case):
    def test_moved_and_turned(self):
        for seed in range(40):
            book = models.random_book(seed)
            names = ["abcz"[(k * k + seed) % 4] for k in range(seed % 5)]
            for name in "az":
                self.assertSame(moved_chances(book, name, *names), chances(book, None, name, names))
                self.assertSame(turned_chances(book, name, "b", *names), chances(book, name, "b", names))

    def test_far_moves(self):
        self.assertSame(moved_chances(CROSS, "ac", "bc", "ad", "bd"), chances(CROSS, None, "ac", ["bc", "ad", "bd"]))
        self.assertIn((2, 2), moved_chances(CROSS, "ac", "bc", "ad", "bd"))
        self.assertSame(moved_chances(LATE, "x", "r", "x", "x", "y"), chances(LATE, None, "x", ["r", "x", "x", "y"]))
        self.assertIn((2, 3), moved_chances(LATE, "x", "r", "x", "x", "y"))

    def test_nested_quotas_move_one_at_most(self):
        for quotas in (Quotas((1, ("a",)), (2, ("a", "b")), most=3), Quotas((2, ("", "c")), (1, ("c",)), most=4)):
            for name in "abcz":
                told = moved_chances(quotas.as_book(), name, "a", "b", "c", "z", "a")
                self.assertLessEqual(set(told), {(0, 0), (0, 1), (1, 1)})

    def test_edges(self):
        plain = Book({"": 0}, most=2)
        self.assertSame([moved_chances(plain, "a"), turned_chances(plain, "a", "b")], [{(0, 1): (1, 1)}, {(0, 0): (1, 1)}])
        self.assertSame(moved_chances(Book({}), "a", "b"), {(0, 0): (1, 1)})
        self.assertSame(turned_chances(Book({"a": 0}), "a", "b"), {(1, 0): (1, 1)})
        self.assertSame(turned_chances(Book({"a": 0}), "b", "a"), {(0, 1): (1, 1)})
        # A class that turns to itself changes nothing.
        self.assertSame(turned_chances(LATE, "r", "r", "x", "x", "y"), {(0, 0): (1, 1)})

    def test_seven_hosts_and_eight(self):
        book = Quotas((1, ("a", "b")), (2, ("b", "c", "d")), most=4).as_book()
        names = ("g", "f", "e", "d", "c", "b", "a")
        self.assertSame(moved_chances(book, "a", *names), chances(book, None, "a", names))
        self.assertSame(turned_chances(book, "b", "z", *names), chances(book, "b", "z", names))
        self.assertRaisesJust(TooMany("hosts", 8), moved_chances, book, "a", *names, "a")
        self.assertRaisesJust(TooMany("hosts", 8), turned_chances, book, "a", "b", *names, "a")

    def test_the_chances_add_up(self):
        told = moved_chances(LATE, "x", "r", "x", "y", "y", "r", "x")
        self.assertEqual(sum(Fraction(*share) for share in told.values()), 1)
        self.assertEqual(list(told), sorted(told))

    def test_errors(self):
        book, eight = Book({}), ["a"] * 8
        for value in STRANGE:
            self.assertRaisesJust(BadBook("book"), moved_chances, value, value, value)
            self.assertRaisesJust(BadBook("book"), turned_chances, value, value, value)
            self.assertRaisesJust(BadName(value), moved_chances, book, value, None)
            self.assertRaisesJust(BadName(value), moved_chances, book, "a", *eight, value, None)
            self.assertRaisesJust(BadName(value), turned_chances, book, value, None)
            self.assertRaisesJust(BadName(value), turned_chances, book, "a", value, None)
            self.assertRaisesJust(BadName(value), turned_chances, book, "a", "b", *eight, value, None)
        self.assertRaisesJust(TooMany("hosts", 8), turned_chances, book, "a", "b", *eight)
        self.assertSame(turned_chances(one="a", other="b", book=book), {(0, 0): (1, 1)})
        self.assertSame(moved_chances(name="a", book=book), {(0, 0): (1, 1)})


if __name__ == "__main__":
    unittest.main()
