"""Arcs, keys and loads: stayopen/arcs.py."""

import unittest

from stayopen.arcs import arcs, keys_of, loads
from stayopen.books import Book
from stayopen.errors import BadBook, BadRing, NoHost
from stayopen.rings import Ring
from stayopen.walks import copies
from tests import models
from tests.helpers import STRANGE, Case

LAST = 999999999


def some_rings():
    rings = [Ring(), Ring((0, "a")), Ring((LAST, "a")), Ring((0, "a"), (LAST, "b")), Ring((0, "a"), (1, "b"), (2, "a")),
             Ring((LAST - 1, "a"), (LAST, "b")), Ring((5, "b"), (LAST - 1, "a")), Ring((5, "b"))]
    for seed in range(12):
        rings.append(Ring(*[((k * k * 7919 * (seed + 3)) % (LAST + 1), "abc"[(k + seed) % 3]) for k in range(1, 3 + seed)]))
    return rings


def some_books():
    return [Book({}), Book({"": 0}), Book({"": 0}, most=1), Book({"a": 0}), *[models.random_book(k) for k in range(8)]]


def edges(ring):
    """Keys at both sides of all places, and both ends."""
    told = {0, LAST}
    for place, _ in ring:
        told.update(key for key in (place - 1, place, place + 1) if 0 <= key <= LAST)
    return sorted(told)


class Arcs(Case):
    def test_arcs(self):
        for ring in some_rings():
            for book in some_books():
                told = arcs(book, ring)
                self.assertEqual([told[0][0], told[-1][1]], [0, LAST])
                for (_, last, ours), (first, _, theirs) in zip(told, told[1:]):
                    self.assertEqual(last + 1, first)
                    self.assertNotEqual(ours, theirs)
                for first, last, taken in told:
                    self.assertLessEqual(first, last)
                    for key in {first, last, *[key for key in edges(ring) if first <= key <= last]}:
                        self.assertSame(copies(book, ring, key), taken)

    def test_ends_and_edges(self):
        plain = Book({"": 0}, most=1)
        self.assertSame(arcs(plain, Ring((0, "a"), (1, "b"))), ((0, 0, (0,)), (1, 1, (1,)), (2, LAST, (0,))))
        self.assertSame(arcs(plain, Ring((5, "a"), (LAST, "b"))), ((0, 5, (5,)), (6, LAST, (LAST,))))
        # Keys behind the last host and up to the first have one walk, and are told as two.
        self.assertSame(arcs(plain, Ring((5, "a"), (9, "b"))), ((0, 5, (5,)), (6, 9, (9,)), (10, LAST, (5,))))
        self.assertSame(arcs(plain, Ring((5, "a"))), ((0, LAST, (5,)),))
        # Neighbours with the same copies in the same order are one arc.
        self.assertSame(arcs(Book({"a": 0}, most=1), Ring((5, "b"), (9, "a"), (20, "b"))), ((0, LAST, (9,)),))
        # The same copies in another order are two.
        self.assertSame(arcs(Book({"": 0}), Ring((5, "a"), (9, "b"))),
                        ((0, 5, (5, 9)), (6, 9, (9, 5)), (10, LAST, (5, 9))))

    def test_a_hundred_hosts(self):
        ring = Ring(*[(k * 10 ** 7, "a") for k in range(100)])
        self.assertEqual(len(arcs(Book({"": 0}), ring)), 101)
        self.assertEqual(sum(loads(Book({"": 0}, most=5), ring).values()), 5 * 10 ** 9)


class Keys(Case):
    def test_keys_and_loads(self):
        for ring in some_rings():
            for book in some_books():
                held = loads(book, ring)
                self.assertSame(list(held), [place for place, _ in ring])
                for place, _ in ring:
                    told = keys_of(book, ring, place)
                    self.assertEqual(held[place], sum(last - first + 1 for first, last in told))
                    for (_, last), (first, _) in zip(told, told[1:]):
                        self.assertLess(last + 1, first)
                    for key in edges(ring):
                        inside = any(first <= key <= last for first, last in told)
                        self.assertIs(place in copies(book, ring, key), inside)

    def test_stretches_over_the_end_are_two(self):
        plain = Book({"": 0}, most=1)
        self.assertSame(keys_of(plain, Ring((5, "a"), (9, "b")), 5), ((0, 5), (10, LAST)))
        self.assertSame(keys_of(plain, Ring((5, "a")), 5), ((0, LAST),))
        self.assertSame(keys_of(Book({}), Ring((5, "a")), 5), ())
        # Two arcs in which one host stands at unlike places are one stretch.
        self.assertSame(keys_of(Book({"": 0}), Ring((5, "a"), (9, "b")), 9), ((0, LAST),))

    def test_loads_are_new_dicts(self):
        ring = Ring((5, "a"))
        told = loads(Book({"": 0}), ring)
        told[5] = 7
        self.assertSame(loads(Book({"": 0}), ring), {5: 10 ** 9})
        self.assertSame(loads(Book({"": 0}), Ring()), {})


class Errors(Case):
    def test_errors(self):
        book, ring = Book({}), Ring((1, "a"))
        for value in STRANGE:
            for work in (arcs, loads):
                self.assertRaisesJust(BadBook("book"), work, value, value)
                self.assertRaisesJust(BadRing("ring"), work, ring=value, book=book)
            self.assertRaisesJust(BadBook("book"), keys_of, value, value, value)
            self.assertRaisesJust(BadRing("ring"), keys_of, book, value, value)
            self.assertRaisesJust(NoHost(value), keys_of, book, ring, value)
        self.assertRaisesJust(NoHost(2), keys_of, book=book, ring=ring, place=2)


if __name__ == "__main__":
    unittest.main()
