"""Moves of keys between two rings: stayopen/moves.py."""

import itertools
import unittest

from stayopen.arcs import loads
from stayopen.books import Book
from stayopen.errors import BadBook, BadRing
from stayopen.moves import keys_moved, keys_new, moves
from stayopen.rings import Ring
from stayopen.walks import copies
from tests import models
from tests.helpers import STRANGE, Case
from tests.test_arcs import edges, some_books, some_rings

LAST = 999999999


class Moves(Case):
    def test_moves(self):
        rings = some_rings()
        for one, other in itertools.product(rings[:9], rings[3:11]):
            for book in some_books()[1:8]:
                told = moves(book, one, other)
                new = {place: 0 for place, _ in other}
                for first, last, _, came in told:
                    for place in came:
                        new[place] += last - first + 1
                self.assertSame(keys_new(book, one, other), new)
                self.assertEqual(keys_moved(book, one, other), sum(row[1] - row[0] + 1 for row in told))
                for left, right in zip(told, told[1:]):
                    self.assertLess(left[1], right[0])
                    if left[1] + 1 == right[0]:
                        self.assertNotEqual(left[2:], right[2:])
                for key in {*edges(one), *edges(other)}:
                    ahead, behind = set(copies(book, one, key)), set(copies(book, other, key))
                    rows = [row for row in told if row[0] <= key <= row[1]]
                    if ahead == behind:
                        self.assertEqual(rows, [])
                    else:
                        gone, came = tuple(sorted(ahead - behind)), tuple(sorted(behind - ahead))
                        self.assertSame([row[2:] for row in rows], [(gone, came)])

    def test_ends(self):
        plain = Book({"": 0}, most=1)
        # The keys behind the last host and up to the first are told as two.
        self.assertSame(moves(plain, Ring((5, "a"), (9, "a")), Ring((7, "a"), (9, "a"))),
                        ((0, 5, (5,), (7,)), (6, 7, (9,), (7,)), (10, LAST, (5,), (7,))))
        self.assertSame(moves(plain, Ring(), Ring((0, "a"))), ((0, LAST, (), (0,)),))
        self.assertSame(moves(plain, Ring((LAST, "a")), Ring()), ((0, LAST, (LAST,), ()),))
        self.assertSame([moves(plain, Ring(), Ring()), keys_new(plain, Ring((0, "a")), Ring())], [(), {}])

    def test_a_turned_host_is_the_same_host(self):
        plain, ring = Book({"": 0}), Ring((5, "a"), (9, "b"))
        self.assertSame(moves(plain, ring, ring.changed(("turn", 5, "z"))), ())
        self.assertEqual(keys_moved(plain, ring, ring.changed(("turn", 5, "z"))), 0)

    def test_gone_and_new_are_ascending(self):
        # Of the key 7 the walk meets 9 ahead of 5.
        one, other = Ring((5, "a"), (9, "a")), Ring((6, "b"), (8, "b"))
        told = moves(Book({"": 0}), one, other)
        self.assertSame(told, ((0, LAST, (5, 9), (6, 8)),))

    def test_only_the_copies_of_a_changed_host_move(self):
        for book in [models.random_book(seed) for seed in range(30)]:
            ring = Ring(*[(100 * k, "abc"[k % 3]) for k in range(1, 6)])
            more = ring + (250, "a")
            self.assertEqual(keys_moved(book, ring, more), loads(book, more)[250])
            self.assertEqual(keys_moved(book, more, ring), loads(book, more)[250])

    def test_dicts_belong_to_the_caller(self):
        ring = Ring((1, "a"))
        keys_new(Book({"": 0}), Ring(), ring).clear()
        self.assertSame(keys_new(Book({"": 0}), Ring(), ring), {1: 10 ** 9})

    def test_errors(self):
        book, ring = Book({}), Ring()
        for work in (moves, keys_moved, keys_new):
            for value in STRANGE:
                self.assertRaisesJust(BadBook("book"), work, value, value, value)
                self.assertRaisesJust(BadRing("one"), work, book, value, value)
                self.assertRaisesJust(BadRing("other"), work, other=value, one=ring, book=book)


if __name__ == "__main__":
    unittest.main()
