"""Walks and copies: stayopen/walks.py."""

import unittest

from stayopen.books import Book
from stayopen.errors import BadBook, BadNumber, BadRing
from stayopen.rings import Ring
from stayopen.walks import copies, met, walk
from tests import models
from tests.helpers import STRANGE, Case

LAST = 999999999


def walk_model(ring, key):
    """The walk of a key, straight from the definition."""
    return sorted(ring, key=lambda host: (host[0] < key, host[0]))


class Walks(Case):
    def test_walks(self):
        ring = Ring((0, "a"), (1, "b"), (500, "c"), (LAST, "d"))
        for key in (0, 1, 2, 499, 500, 501, LAST - 1, LAST):
            self.assertSame(list(walk(ring, key)), walk_model(ring, key))
        self.assertSame(list(walk(ring, LAST)), [(LAST, "d"), (0, "a"), (1, "b"), (500, "c")])
        self.assertSame(list(walk(ring, 2))[0], (500, "c"))
        self.assertSame(list(walk(Ring(), 5)), [])
        self.assertSame(list(walk(key=9, ring=Ring((8, "a")))), [(8, "a")])

    def test_errors_come_at_the_first_item(self):
        for value in (*STRANGE, [(1, "a")]):
            self.assertRaisesJust(BadRing("ring"), lambda value=value: next(walk(value, None)))
            if not isinstance(value, int) or value in (True, -1, 10 ** 40):
                self.assertRaisesJust(BadNumber(value), lambda value=value: next(walk(Ring(), value)))
        self.assertRaisesJust(BadNumber(LAST + 1), lambda: next(walk(Ring(), LAST + 1)))

    def test_the_walk_is_a_generator(self):
        hosts = walk(Ring((1, "a"), (2, "b")), 2)
        self.assertSame(next(hosts), (2, "b"))
        self.assertSame(next(hosts), (1, "a"))
        self.assertIsNone(next(hosts, None))


class Copies(Case):
    def test_copies_and_states(self):
        for seed in range(60):
            book = models.random_book(seed)
            ring = Ring(*[((k * k * 37 + seed) % 1000, "abc"[(k + seed) % 3]) for k in range(1, 7)])
            for key in (0, 5, 300, 999, LAST):
                hosts = walk_model(ring, key)
                taken = models.takes(book.states, book.most, [name for _, name in hosts])
                self.assertSame(copies(book, ring, key), tuple(host[0] for host, is_taken in zip(hosts, taken) if is_taken))
                state, told = 0, []
                for (place, name), is_taken in zip(hosts, taken):
                    told.append((place, state, is_taken))
                    state = models.behind(book.states, state, name) if is_taken else state
                self.assertSame(met(book, ring, key), tuple(told))

    def test_behind_most_hosts_the_state_stays(self):
        chain = Book({"": 1}, {"": 2}, {"": 3}, {}, most=2)
        ring = Ring((1, "a"), (2, "a"), (3, "a"), (4, "a"))
        self.assertSame(met(chain, ring, 2), ((2, 0, True), (3, 1, True), (4, 2, False), (1, 2, False)))

    def test_no_hosts(self):
        self.assertSame([copies(Book({"": 0}), Ring(), 0), met(Book({"": 0}), Ring(), 0)], [(), ()])

    def test_a_hundred_hosts(self):
        ring = Ring(*[(k, "a") for k in range(100)])
        self.assertSame(copies(Book({"": 0}, most=5), ring, 98), (98, 99, 0, 1, 2))

    def test_errors(self):
        book, ring = Book({}), Ring()
        for work in (copies, met):
            for value in STRANGE:
                self.assertRaisesJust(BadBook("book"), work, value, value, value)
                self.assertRaisesJust(BadRing("ring"), work, book, value, value)
            for value in (None, True, -1, LAST + 1, "1", (1,), [1], 10 ** 40):
                self.assertRaisesJust(BadNumber(value), work, key=value, ring=ring, book=book)


if __name__ == "__main__":
    unittest.main()
