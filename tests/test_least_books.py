"""Rows and least books: stayopen/least_books.py."""

import unittest

from stayopen.books import Book, classes
from stayopen.errors import BadBook, TooMany
from stayopen.least_books import Lessened, least, lessened, rows
from tests import models
from tests.helpers import STRANGE, Case


def some_books():
    return [models.random_book(seed, states=2 + seed % 4) for seed in range(80)]


class Rows(Case):
    def test_order_of_first_mention(self):
        # d is the free letter and stands behind c, though the star is written last.
        book = Book({"a": 3, "b": None, "c": 2, "e": 1, "": 0}, {}, {}, {"a": 1}, most=2)
        self.assertSame(rows(book), ((0, 0), (3, 1), (2, 1), (0, 1), (1, 1), (1, 2), (3, 2), (2, 2), (0, 2)))

    def test_rows_are_those_of_walks(self):
        for book in some_books():
            names = classes(book)
            told = {(0, 0)}
            for word in models.words_up_to(names, 5):
                taken = book.takes(*word)
                state = 0
                for name, flag in zip(word, taken):
                    state = book.step(state, name) if flag else state
                told.add((state, sum(taken)))
            self.assertEqual(set(rows(book)), told)
            self.assertEqual(len(rows(book)), len(told))

    def test_most_rows(self):
        # With nine classes each state leads to nine others.
        book = Book(*[{name: (9 * k + at + 1) % 64 for at, name in enumerate(["", *"abcdefgh"])} for k in range(64)],
                    most=5)
        told = rows(book)
        self.assertLessEqual(len(told), 321)
        self.assertGreater(len(told), 190)
        self.assertEqual(len(set(told)), len(told))

    def test_errors(self):
        for value in STRANGE:
            self.assertRaisesJust(BadBook("book"), rows, value)
            self.assertRaisesJust(BadBook("book"), least, value)
            self.assertRaisesJust(BadBook("book"), lessened, value)
        self.assertSame(rows(book=Book({})), ((0, 0),))


class Least(Case):
    def test_as_few_states_as_unlike_rows(self):
        for book in some_books():
            names = classes(book)
            lots = {models.deeds(book, names, row) for row in rows(book)}
            told = least(book)
            self.assertEqual(len(told.states), len(lots))
            for word in models.words_up_to(("a", "b", "c"), 5):
                self.assertEqual(told.takes(*word), book.takes(*word))
            self.assertEqual(told.most, max(book.room, 1))

    def test_only_what_must_be_told(self):
        for book in some_books():
            told = least(book)
            for state in told.states:
                for name in state:
                    if name != "":
                        self.assertNotEqual(state[name], state.get(""), str(told))
                self.assertIsNotNone(state.get("", 0), str(told))

    def test_states_by_their_first_mention(self):
        for book in some_books():
            told = least(book)
            seen = [0]
            for state in range(len(told.states)):
                for name in classes(told):
                    ahead = told.step(seen[state], name)
                    if ahead is not None and ahead not in seen:
                        seen.append(ahead)
            self.assertEqual(seen, list(range(len(told.states))))

    def test_order_goes_by_the_classes_of_the_least_book(self):
        # The book tells a and so has the free letter b; the least book tells no a, and has
        # the free letter a: the star is gone through ahead of c there.
        book = Book({"a": 1, "c": 2, "": 1}, {"a": 2, "c": 2, "": 2}, {"a": None}, most=2)
        self.assertEqual(str(least(book)), "book 2 : c 2 , * 1 / * 2 / .")

    def test_stop_is_told_by_the_states(self):
        for book in some_books():
            told = least(book)
            free = Book(*told.states, most=5)
            self.assertEqual(free, book)

    def test_alike_books_have_one_least_book(self):
        one = Book({"": 1, "a": 1}, {"": 0}, most=3)
        self.assertEqual(str(least(one)), str(least(Book({"": 0}, most=3))))
        self.assertEqual(str(least(Book({"a": None}, most=4))), "book 1 : .")
        books = some_books()
        for one in books[:30]:
            for other in books[:30]:
                self.assertIs(one == other, str(least(one)) == str(least(other)))

    def test_least_of_least(self):
        for book in some_books():
            self.assertEqual(str(least(least(book))), str(least(book)))

    def test_sixty_four_lots_and_more(self):
        self.assertEqual(len(least(tree(False)).states), 64)
        self.assertEqual(len(lessened(tree(False)).parted), 64 * 63 // 2)
        book = tree(True)
        lots = {models.deeds(book, classes(book), row) for row in rows(book)}
        self.assertEqual(len(lots), 65)
        for work in (least, lessened):
            self.assertRaisesJust(TooMany("states", 64), work, book)


def tree(is_doubled):
    """A book of 64 states that are all unlike; one of them, doubled, is two lots of rows.

    From the state 0 seven names lead to seven states, their nine classes to 55 leaves; a leaf
    takes the names by the bits of its number. The name h leads to the first leaf at once: it
    leads to itself if it is doubled, so it takes two hosts there, and one behind two copies.
    """
    names = ("a", "b", "c", "d", "e", "f", "g", "h")
    states = [{} for _ in range(64)]
    for leaf in range(55):
        states[1 + leaf // 9][["", *names][leaf % 9]] = 8 + leaf
        states[8 + leaf].update({name: 63 for at, name in enumerate(names) if (leaf + 1) >> at & 1})
    states[0].update({names[at]: 1 + at for at in range(7)}, h=8)
    if is_doubled:
        states[8] = {"a": 8}
    return Book(*states, most=3)


class Papers(Case):
    def test_lots_and_partings(self):
        for book in some_books():
            paper = lessened(book)
            told = paper.least
            self.assertEqual(str(told), str(least(book)))
            names = classes(book)
            for row, state in zip(rows(book), paper.lots):
                for name in names:
                    taken = row[1] < book.most and book.step(row[0], name) is not None
                    self.assertEqual(taken, told.step(state, name) is not None)
            many = len(told.states)
            self.assertEqual([part[:2] for part in paper.parted],
                             [(i, j) for i in range(many) for j in range(i + 1, many)])
            for i, j, word in paper.parted:
                self.assertEqual(word, self.first_parting(told, i, j))

    def first_parting(self, book, one, other):
        """The first walk, the shortest first, then the least, that parts two states."""
        for word in models.words_up_to(classes(book), 5):
            place, told = [one, other], [None, None]
            for name in word:
                for k in (0, 1):
                    told[k] = models.behind(book.states, place[k], name)
                    place[k] = place[k] if told[k] is None else told[k]
            if (told[0] is None) != (told[1] is None):
                return word
        return None

    def test_papers(self):
        paper = Lessened([1, {"a": [2]}], lots=(), parted=None)
        self.assertTrue(paper)
        self.assertTrue(paper == Lessened([1, {"a": [2]}], (), None))
        self.assertTrue(paper != Lessened([1, {"a": [2]}], [], None))
        self.assertFalse(paper == [1, {"a": [2]}])
        self.assertTrue(lessened(Book({"a": 0})) == lessened(Book({"a": 0, "b": None})))


if __name__ == "__main__":
    unittest.main()
