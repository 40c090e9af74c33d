"""Alike books, and books within others: stayopen/alike_books.py."""

import unittest

from stayopen.alike_books import Alike, Beyond, Unlike, Within, alike, within
from stayopen.books import Book, classes
from stayopen.errors import BadBook
from tests import models
from tests.helpers import STRANGE, Case


def some_books():
    small = [models.random_book(seed, names=("a",), states=2) for seed in range(18)]
    return small + [models.random_book(seed, names=("b",), states=3) for seed in range(18)]


def pairs_in_order(one, other):
    """All pairs of rows of walks, in the order of their first mention, unless one is parted."""
    pairs = [((0, 0), (0, 0))]
    for (left, ours), (right, theirs) in pairs:
        for name in classes(one, other):
            first = one.step(left, name) if ours < one.most else None
            second = other.step(right, name) if theirs < other.most else None
            pair = ((left, ours) if first is None else (first, ours + 1),
                    (right, theirs) if second is None else (second, theirs + 1))
            if pair not in pairs:
                pairs.append(pair)
    return tuple(pairs)


def first_word(one, other, parts):
    """The first walk, the shortest first, then the least, whose last host parts two books."""
    for word in models.words_up_to(classes(one, other), 6):
        if parts(one.takes(*word)[-1], other.takes(*word)[-1]):
            return word
    return None


class Books(Case):
    def test_alike(self):
        for one in some_books():
            for other in some_books():
                word = first_word(one, other, lambda first, second: first != second)
                told = alike(one, other)
                self.assertIs(bool(told), word is None)
                if word is None:
                    self.assertIs(type(told), Alike)
                    self.assertSame(told.pairs, pairs_in_order(one, other))
                else:
                    self.assertIs(type(told), Unlike)
                    self.assertSame(told.word, word)

    def test_within(self):
        for one in some_books():
            for other in some_books():
                word = first_word(one, other, lambda first, second: first and not second)
                told = within(one, other)
                self.assertIs(bool(told), word is None)
                if word is None:
                    self.assertIs(type(told), Within)
                    self.assertSame(told.pairs, pairs_in_order(one, other))
                else:
                    self.assertIs(type(told), Beyond)
                    self.assertSame(told.word, word)

    def test_walk_of_six_hosts(self):
        five, chain = Book({"": 0}, most=5), Book(*[{"": k + 1} for k in range(5)], {"b": 0}, most=5)
        self.assertTrue(alike(five, chain))
        one, other = Book({"a": 0, "": 0}, most=5), Book(*[{"": k + 1} for k in range(4)], {"": 5, "c": None}, {}, most=5)
        self.assertSame(alike(one, other).word, ("a", "a", "a", "a", "c"))
        left, right = Book({"a": 0, "b": 0}, most=5), Book({"a": 0, "b": 1}, {"a": 1, "b": 1}, most=4)
        self.assertSame(within(left, right).word, ("a",) * 5)
        self.assertTrue(within(right, left))
        # The sixth host parts them: one has four copies, the other five.
        one = Book({"a": 0, "b": None}, most=5)
        other = Book({"a": 0, "b": 0}, most=5)
        self.assertSame(within(one, other).word, ("a", "a", "a", "a", "b", "a"))

    def test_the_least_of_the_shortest_walks(self):
        one, other = Book({"b": 0, "c": 0}), Book({})
        self.assertSame(alike(one, other).word, ("b",))
        self.assertSame(alike(other, one).word, ("b",))
        self.assertSame(within(one, other).word, ("b",))
        self.assertTrue(within(other, one))

    def test_the_free_letter_is_of_both_books(self):
        one, other = Book({"a": 0, "": 0}), Book({"a": 0, "b": 0})
        self.assertSame(alike(one, other).word, ("c",))

    def test_errors(self):
        book = Book({})
        for work in (alike, within):
            for value in STRANGE:
                self.assertRaisesJust(BadBook("one"), work, value, None)
                self.assertRaisesJust(BadBook("other"), work, book, value)
                self.assertRaisesJust(BadBook("other"), work, other=value, one=book)

    def test_large_books(self):
        names = ("a", "b", "c", "d", "e", "f", "g", "h")
        book = Book(*[{name: (7 * k + 3 * at + 1) % 64 for at, name in enumerate(["", *names])} for k in range(64)],
                    most=5)
        self.assertTrue(alike(book, Book({"": 0}, most=5)))
        self.assertSame(within(Book({"x": 0}, most=5), book).word, ("a",) * 5 + ("x",))


class Papers(Case):
    def test_equality_and_bool(self):
        for paper, word in ((Alike, "pairs"), (Unlike, "word"), (Within, "pairs"), (Beyond, "word")):
            for value in STRANGE:
                self.assertSame(getattr(paper(value), word), value)
                self.assertSame(getattr(paper(**{word: value}), word), value)
                self.assertIs(bool(paper(value)), paper in (Alike, Within))
                self.assertTrue(paper(value) == paper(value))
                self.assertFalse(paper(value) != paper(value))
                self.assertFalse(paper(value) == value)
            self.assertTrue(paper(1) == paper(True))
            self.assertTrue(paper((1,)) != paper([1]))
        self.assertFalse(Alike(()) == Within(()))
        self.assertFalse(Unlike(("a",)) == Beyond(("a",)))

    def test_lists_and_dicts_are_copied_all_the_way_in(self):
        value = [(1, [2, {"a": [3]}])]
        paper = Alike(value)
        value[0][1][1]["a"].append(4)
        value.append(5)
        self.assertSame(paper.pairs, [(1, [2, {"a": [3]}])])
        book = Book({})
        self.assertIs(Unlike((book,)).word[0], book)


if __name__ == "__main__":
    unittest.main()
