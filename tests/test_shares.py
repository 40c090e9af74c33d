"""Shares and counts over all orders: stayopen/shares.py."""

import itertools
import math
import unittest
from fractions import Fraction

from stayopen.books import Book
from stayopen.errors import BadBook, BadName, TooMany
from stayopen.quotas import Quotas
from stayopen.shares import counts, shares
from tests import models
from tests.helpers import STRANGE, Case


def chance(value):
    return (value.numerator, value.denominator)


def shares_model(book, names):
    """The chance of each class, by all orders of the hosts."""
    taken = {name: 0 for name in sorted(names)}
    orders = list(itertools.permutations(range(len(names))))
    for order in orders:
        for host, is_taken in zip(order, book.takes(*[names[at] for at in order])):
            taken[names[host]] += is_taken
    return {name: chance(Fraction(taken[name], len(orders) * names.count(name))) for name in taken}


def counts_model(book, names):
    told = {}
    for order in itertools.permutations(names):
        many = sum(book.takes(*order))
        told[many] = told.get(many, 0) + 1
    return {many: chance(Fraction(told[many], math.factorial(len(names)))) for many in sorted(told)}


class Shares(Case):
    def test_shares_and_counts(self):
        for seed in range(40):
            book = models.random_book(seed)
            names = ["abcz"[(k * k + seed) % 4] for k in range(1 + seed % 6)]
            self.assertSame(shares(book, *names), shares_model(book, names))
            self.assertSame(counts(book, *names), counts_model(book, names))

    def test_edges(self):
        plain = Book({"": 0}, most=2)
        self.assertSame([shares(plain), counts(plain), counts(Book({}), "a")], [{}, {0: (1, 1)}, {0: (1, 1)}])
        self.assertSame(shares(Book({"b": 0}), "b", "a"), {"a": (0, 1), "b": (1, 1)})
        # The chance is that of one told host of a class, not of any of them.
        self.assertSame(shares(Book({"": 0}, most=1), "b", "a", "a", "a"), {"a": (1, 4), "b": (1, 4)})

    def test_eight_hosts_and_nine(self):
        book = Quotas((1, ("a", "b")), (2, ("c", "d", "e")), most=4).as_book()
        names = ("h", "g", "f", "e", "d", "c", "b", "a")
        told = shares(book, *names)
        self.assertSame(list(told), sorted(names))
        self.assertSame(told, shares_model(book, names))
        self.assertSame(counts(book, *names), {4: (1, 1)})
        for work in (shares, counts):
            self.assertRaisesJust(TooMany("hosts", 8), work, book, *names, "a")

    def test_shares_add_up_to_the_copies(self):
        book = Quotas((1, ("a", "b")), (1, ("b", "c")), most=3).as_book()
        names = ("a", "b", "c", "d", "a")
        told = sum(Fraction(*shares(book, *names)[name]) for name in names)
        self.assertEqual(told, sum(many * Fraction(*share) for many, share in counts(book, *names).items()))

    def test_errors(self):
        book = Book({})
        for work in (shares, counts):
            for value in (*STRANGE, Quotas()):
                self.assertRaisesJust(BadBook("book"), work, value, "A")
            for value in STRANGE:
                self.assertRaisesJust(BadName(value), work, book, "a", value, None)
                self.assertRaisesJust(BadName(value), work, book, *["a"] * 9, value)
            self.assertRaisesJust(TooMany("hosts", 8), work, book, *["a"] * 9)


if __name__ == "__main__":
    unittest.main()
