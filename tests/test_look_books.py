"""Lookers for the papers on books: stayopen/look_books.py."""

import unittest

from stayopen.alike_books import Alike, Beyond, Unlike, Within, alike, within
from stayopen.books import Book
from stayopen.errors import BadBook
from stayopen.least_books import Lessened, least, lessened, rows
from stayopen.look_books import shows_alike, shows_lessened, shows_within
from stayopen.quotas import Quotas
from tests import models
from tests.helpers import STRANGE, Case

PLAIN = Book({"": 0}, most=2)
WIDE = Book({"": 0}, most=3)
CHAIN = Book({"": 1}, {"": 1}, most=2)
RACKS = Book({"a": 1, "b": 2}, {"b": 3}, {"a": 3}, {})
START = ((0, 0), (0, 0))


def strange_papers():
    """Values of other kinds, and papers made of values of other kinds."""
    told = [*STRANGE, PLAIN, Quotas(), Lessened, Alike]
    for value in [*STRANGE, PLAIN]:
        told += [Alike(value), Unlike(value), Within(value), Beyond(value), Lessened(value, value, value)]
        told += [Alike((value,)), Within((START, value)), Unlike(("a", value)), Beyond((value, "a"))]
        told += [Alike((START, (value, value))), Within((START, ((0, 0), value))), Within((START, ((0, value), (0, 0))))]
        told += [Alike((START, ((value, 0), (0, 0))))]
    return told


class LooksAlike(Case):
    def test_what_alike_tells(self):
        books = [models.random_book(seed, names=("a",), states=2) for seed in range(24)]
        for one in books:
            for other in books:
                self.assertIs(shows_alike(one, other, alike(one, other)), True)
                self.assertIs(shows_within(one, other, within(one, other)), True)

    def test_right_pairs_of_other_kinds(self):
        pairs = alike(PLAIN, CHAIN).pairs
        self.assertTrue(shows_alike(PLAIN, CHAIN, Alike(pairs[::-1])))
        self.assertTrue(shows_alike(PLAIN, CHAIN, Alike(pairs + pairs)))
        # A pair that no walk comes to, with all that is behind it.
        more = pairs + (((0, 1), (0, 1)), ((0, 2), (0, 2)))
        self.assertTrue(shows_alike(PLAIN, CHAIN, Alike(more)))
        self.assertFalse(shows_alike(PLAIN, CHAIN, Alike(pairs + (((0, 1), (0, 1)), ((0, 2), (1, 1))))))
        self.assertFalse(shows_alike(PLAIN, CHAIN, Alike(pairs + (((0, 1), (1, 0)),))))

    def test_wrong_pairs(self):
        pairs = alike(PLAIN, CHAIN).pairs
        for at in range(len(pairs)):
            self.assertIs(shows_alike(PLAIN, CHAIN, Alike(pairs[:at] + pairs[at + 1:])), False)
        self.assertFalse(shows_alike(PLAIN, CHAIN, Alike(list(pairs))))
        self.assertFalse(shows_alike(PLAIN, CHAIN, Alike(())))
        self.assertFalse(shows_alike(PLAIN, WIDE, Alike((*pairs, ((0, 2), (0, 3))))))
        for wrong in (((0, 3), (1, 2)), ((1, 0), (0, 0)), ((0, 0), (2, 0)), ((0, -1), (0, 0)), ((0, 2), (1, 3)),
                      ((0, 2, 0), (1, 2)), ((0, 2), (1, 2), 0), [(0, 2), (1, 2)], ([0, 2], (1, 2))):
            self.assertIs(shows_alike(PLAIN, CHAIN, Alike((*pairs, wrong))), False, wrong)
        self.assertFalse(shows_alike(PLAIN, PLAIN, Alike((START, ((0, True), (0, 1)), ((0, 2), (0, 2))))))
        self.assertFalse(shows_alike(PLAIN, PLAIN, Alike((((0, False), (0, 0)), ((0, 1), (0, 1)), ((0, 2), (0, 2))))))

    def test_rows_that_no_book_has(self):
        empty = Book({})
        for row in ((-1, 0), (0, -1), (1, 0), (0, 4), (False, 0), (0, False), (None, 0), (0, "0")):
            for pair in ((row, (0, 0)), ((0, 0), row)):
                self.assertIs(shows_alike(empty, empty, Alike((START, pair))), False)
                self.assertIs(shows_within(empty, empty, Within((START, pair))), False)
        self.assertIs(shows_alike(empty, empty, Alike((START, ((0, 3), (0, 2))))), True)
        self.assertIs(shows_within(empty, empty, Within((START, ((0, 3), (0, 2))))), True)

    def test_the_first_pair_is_asked_for(self):
        self.assertIs(shows_alike(Book({}), Book({}), Alike((START,))), True)
        self.assertIs(shows_alike(Book({}), Book({}), Alike((((0, 1), (0, 1)),))), False)
        self.assertIs(shows_within(Book({}), Book({}), Within((((0, 1), (0, 1)),))), False)

    def test_words(self):
        self.assertTrue(shows_alike(PLAIN, WIDE, Unlike(("zz", "a", "b"))))
        self.assertTrue(shows_alike(WIDE, PLAIN, Unlike(("zz", "a", "b"))))
        for word in ((), ("a",), ("a", "a"), ("a", "a", "a", "a"), ["a", "a", "a"], "aaa", ("a", "a", "A"), ("a", "a", "")):
            self.assertIs(shows_alike(PLAIN, WIDE, Unlike(word)), False, word)
        # Hosts that both pass, and any number of them.
        self.assertTrue(shows_alike(RACKS, PLAIN, Unlike(("c",) * 900)) is False)
        self.assertTrue(shows_alike(RACKS, PLAIN, Unlike(("c",))))
        self.assertFalse(shows_alike(PLAIN, WIDE, Beyond(("a", "a", "a"))))

    def test_papers_of_the_other_question(self):
        self.assertFalse(shows_alike(PLAIN, PLAIN, Within(alike(PLAIN, PLAIN).pairs)))
        self.assertFalse(shows_within(PLAIN, PLAIN, Alike(alike(PLAIN, PLAIN).pairs)))
        self.assertFalse(shows_within(WIDE, PLAIN, Unlike(("a", "a", "a"))))

    def test_strange_values(self):
        for value in strange_papers():
            self.assertIs(shows_alike(PLAIN, CHAIN, value), False)
            self.assertIs(shows_within(PLAIN, CHAIN, value), False)

    def test_errors(self):
        for work in (shows_alike, shows_within):
            for value in STRANGE:
                self.assertRaisesJust(BadBook("one"), work, value, value, None)
                self.assertRaisesJust(BadBook("other"), work, PLAIN, value, None)
                self.assertRaisesJust(BadBook("other"), work, value=None, other=value, one=PLAIN)


class LooksWithin(Case):
    def test_pairs(self):
        pairs = within(PLAIN, WIDE).pairs
        for at in range(len(pairs)):
            self.assertIs(shows_within(PLAIN, WIDE, Within(pairs[:at] + pairs[at + 1:])), False)
        self.assertTrue(shows_within(PLAIN, WIDE, Within((*pairs[::-1], ((0, 2), (0, 1)), *pairs))))
        self.assertFalse(shows_within(PLAIN, WIDE, Within((*pairs, ((0, 0), (0, 1))))))
        self.assertFalse(shows_within(WIDE, PLAIN, Within(tuple((b, a) for a, b in pairs))))
        self.assertFalse(shows_within(PLAIN, WIDE, Within(list(pairs))))

    def test_words(self):
        self.assertTrue(shows_within(WIDE, PLAIN, Beyond(("c", "b", "a"))))
        self.assertFalse(shows_within(PLAIN, WIDE, Beyond(("c", "b", "a"))))
        self.assertFalse(shows_within(WIDE, PLAIN, Beyond(("c", "b"))))
        self.assertFalse(shows_within(WIDE, PLAIN, Beyond(("c", "b", "a", "a"))))
        self.assertFalse(shows_within(WIDE, PLAIN, Beyond(["c", "b", "a"])))
        self.assertFalse(shows_within(WIDE, PLAIN, Beyond(())))


class LooksLessened(Case):
    def setUp(self):
        self.book = Book({"a": 1, "b": 2, "": 2}, {"b": 0}, {"a": 3}, {}, most=3)
        self.paper = lessened(self.book)

    def changed(self, book=None, lots=None, parted=None):
        paper = self.paper
        return Lessened(paper.least if book is None else book, paper.lots if lots is None else lots,
                        paper.parted if parted is None else parted)

    def test_what_lessened_tells(self):
        for seed in range(60):
            book = models.random_book(seed)
            self.assertIs(shows_lessened(book, lessened(book)), True)
            self.assertIs(shows_lessened(least(book), lessened(least(book))), True)

    def test_other_numbers_and_more_names(self):
        # The states behind 0 may have any numbers, and tell names that need not be told.
        many = len(self.paper.least.states)
        turn = [0, *range(many - 1, 0, -1)]
        states = [None] * many
        for at, state in enumerate(self.paper.least.states):
            told = {name: None if ahead is None else turn[ahead] for name, ahead in state.items()}
            states[turn[at]] = {**told, "zz": told.get("")}
        parted = []
        for i, j, word in self.paper.parted:
            parted.append((min(turn[i], turn[j]), max(turn[i], turn[j]), word))
        lots = tuple(turn[lot] for lot in self.paper.lots)
        other = Book(*states, most=self.paper.least.most)
        self.assertTrue(shows_lessened(self.book, Lessened(other, lots, tuple(sorted(parted)))))
        self.assertFalse(shows_lessened(self.book, Lessened(other, lots, tuple(sorted(parted)[::-1]))))
        self.assertFalse(shows_lessened(self.book, Lessened(other, self.paper.lots, tuple(sorted(parted)))))

    def test_any_parting_words(self):
        longer = tuple((i, j, ("b", *word)) for i, j, word in self.paper.parted)
        right = all(self.parts(i, j, word) for i, j, word in longer)
        self.assertIs(shows_lessened(self.book, self.changed(parted=longer)), right)
        for at, (i, j, word) in enumerate(self.paper.parted):
            for other in (word + word, ("c", *word), word[:-1], ("b",), ("a",), (), list(word), "a", ("A",), None):
                parted = list(self.paper.parted)
                parted[at] = (i, j, other)
                wanted = isinstance(other, tuple) and len(other) > 0 and other != ("A",) and self.parts(i, j, other)
                self.assertIs(shows_lessened(self.book, self.changed(parted=tuple(parted))), wanted)

    def parts(self, one, other, word):
        place, told = [one, other], [None, None]
        for name in word:
            for k in (0, 1):
                told[k] = models.behind(self.paper.least.states, place[k], name)
                place[k] = place[k] if told[k] is None else told[k]
        return (told[0] is None) != (told[1] is None)

    def test_one_part_otherwise(self):
        lots, parted = self.paper.lots, self.paper.parted
        many = len(self.paper.least.states)
        for at in range(len(lots)):
            for wrong in (*[k for k in range(many) if k != lots[at]], many, -1, None, bool(lots[at]), str(lots[at])):
                told = (*lots[:at], wrong, *lots[at + 1:])
                self.assertIs(shows_lessened(self.book, self.changed(lots=told)), False)
        self.assertFalse(shows_lessened(self.book, self.changed(lots=lots[:-1])))
        self.assertFalse(shows_lessened(self.book, self.changed(lots=(*lots, 0))))
        self.assertFalse(shows_lessened(self.book, self.changed(lots=list(lots))))
        for at in range(len(parted)):
            i, j, word = parted[at]
            for wrong in ((j, i, word), (i, j), (i, j, word, 0), [i, j, word], None, (i, i, word), (i, j + 1, word)):
                told = (*parted[:at], wrong, *parted[at + 1:])
                self.assertIs(shows_lessened(self.book, self.changed(parted=told)), False)
            self.assertFalse(shows_lessened(self.book, self.changed(parted=parted[:at] + parted[at + 1:])))
        first = (False, *parted[0][1:])
        self.assertFalse(shows_lessened(self.book, self.changed(parted=(first, *parted[1:]))))
        second = (0, True, parted[0][2])
        self.assertFalse(shows_lessened(self.book, self.changed(parted=(second, *parted[1:]))))
        self.assertFalse(shows_lessened(self.book, self.changed(parted=list(parted))))
        self.assertFalse(shows_lessened(self.book, self.changed(parted=(*parted, parted[-1]))))

    def test_other_books(self):
        states, most = self.paper.least.states, self.paper.least.most
        self.assertFalse(shows_lessened(self.book, self.changed(book=Book(*states, most=most + 1))))
        self.assertFalse(shows_lessened(self.book, self.changed(book=Book(*states, {}, most=most))))
        self.assertFalse(shows_lessened(self.book, self.changed(book=Book(*states[:-1], {"a": 0}, most=most))))
        self.assertFalse(shows_lessened(self.book, self.changed(book=str(self.paper.least))))
        self.assertFalse(shows_lessened(PLAIN, self.paper))
        # A state that is no lot of rows, though walks part it from all others.
        more = Book({"": 1}, {"": 2}, {}, {"a": 0}, most=2)
        parted = [(0, 1, ("a", "a")), (0, 2, ("a",)), (0, 3, ("b",)), (1, 2, ("a",)), (1, 3, ("b",)), (2, 3, ("a",))]
        self.assertTrue(shows_lessened(PLAIN, Lessened(Book(*more.states[:3], most=2), (0, 1, 2),
                                                       tuple(row for row in parted if row[1] < 3))))
        self.assertFalse(shows_lessened(PLAIN, Lessened(more, (0, 1, 2), tuple(parted))))
        # A state that is there twice: no walk parts it from itself.
        double = Book({"": 1}, {"": 2}, {}, {}, most=2)
        told = lessened(PLAIN)
        self.assertFalse(shows_lessened(PLAIN, Lessened(double, told.lots, told.parted)))

    def test_room_of_nothing(self):
        empty = Book({"a": None}, most=4)
        self.assertEqual(rows(empty), ((0, 0),))
        self.assertTrue(shows_lessened(empty, Lessened(Book({}, most=1), (0,), ())))
        self.assertTrue(shows_lessened(empty, Lessened(Book({"b": None}, most=1), (0,), ())))
        self.assertFalse(shows_lessened(empty, Lessened(Book({}, most=2), (0,), ())))

    def test_the_first_row_has_the_state_0(self):
        told = lessened(Book({"a": 1}, {}, most=1))
        turned = Book({}, {"a": 0}, most=1)
        self.assertTrue(shows_lessened(Book({"a": 1}, {}, most=1), told))
        self.assertFalse(shows_lessened(Book({"a": 1}, {}, most=1), Lessened(turned, (1, 0), told.parted)))

    def test_strange_values(self):
        for value in strange_papers():
            self.assertIs(shows_lessened(self.book, value), False)
        for value in STRANGE:
            self.assertIs(shows_lessened(self.book, Lessened(value, self.paper.lots, self.paper.parted)), False)
            self.assertIs(shows_lessened(self.book, self.changed(lots=(value,) * len(self.paper.lots))), False)
            self.assertIs(shows_lessened(self.book, self.changed(parted=(value,) * len(self.paper.parted))), False)
            self.assertRaisesJust(BadBook("book"), shows_lessened, value, self.paper)


if __name__ == "__main__":
    unittest.main()
