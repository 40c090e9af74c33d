"""Slow and plain models of rows of pairs, leaps, and what books bear."""

import itertools

from stayopen.books import Book
from tests import models

# Books with just as many rows as are let and with one more, by one change and by two; made by trying.
AT_THE_BOUND = (
    (2500, 1, ({"a": 9, "c": 7, "": 2}, {"b": 9}, {"a": 4, "b": 6}, {"a": 6, "b": 1},
               {"a": 9, "b": 6, "c": 4, "": 9}, {"a": 4, "b": 3, "c": 7}, {"a": 5, "b": 8, "": 2},
               {"a": 5, "b": 0, "c": 0, "": 6}, {"b": 4, "": 7, "c": 9}, {"a": 4, "b": 4, "c": 1, "": 7})),
    (2501, 1, ({"a": 9, "c": 7, "": 2}, {"b": 9}, {"a": 4, "b": 6}, {"a": 2, "b": 3, "c": 0},
               {"a": 9, "b": 6, "c": 4, "": 9}, {"a": 8, "b": 3, "c": 9}, {"a": 5, "b": 8, "": 2, "c": 4},
               {"a": 5, "b": 0, "c": 1, "": 5}, {"b": 5, "": 7, "c": 9}, {"a": 4, "b": 7, "c": 1, "": 7})),
    (2500, 2, ({"b": 5, "": 2}, {"a": 4, "b": 4, "c": 5, "": 5}, {"a": 3, "c": 2}, {"a": 1, "": 5},
               {"c": 5, "": 5, "a": 3, "b": 2}, {"b": 0, "c": 5, "": 4, "a": 3})),
    (2501, 2, ({"b": 1, "c": 4}, {"a": 3, "b": 1, "c": 3}, {"a": 1, "b": 4, "c": 5}, {"a": 3, "b": 2, "c": 2},
               {"a": 0, "b": 6}, {"c": 1}, {"a": 1, "b": 3, "c": 3})),
)
CROSS = Book({"ac": 1, "ad": 2, "bc": 3, "bd": 4}, {"bd": 5}, {"bc": 5}, {"ad": 5}, {"ac": 5}, {}, most=2)
LATE = Book({"x": 1, "r": 4}, {"x": 2}, {"x": 3}, {}, {"y": 3}, most=3)
# Five hosts of the class d; but with the classes p and q at most four copies or three, and mostly of one of both.
STAIRS = Book({"d": 1, "p": 6, "q": 10}, {"d": 2, "p": 7, "q": 11}, {"d": 3, "p": 8, "q": 12}, {"d": 4, "p": 9}, {"d": 5},
              {}, {"p": 7, "d": 7}, {"p": 8, "d": 8}, {"p": 9, "d": 9}, {}, {"q": 11, "d": 11}, {"q": 12, "d": 12}, {}, most=5)
BOOKS = (Book({"": 0}, most=1), Book({"": 0}, most=2), Book({"": 0}, most=3), Book({}), Book({"a": 0}, most=2),
         Book({"a": 0, "": None}, most=1), Book({"a": 1, "b": 2}, {"b": 3}, {"a": 3}, {}, most=2), CROSS, LATE, STAIRS)


def book_at(number):
    """The book of AT_THE_BOUND with this index."""
    return Book(*AT_THE_BOUND[number][2], most=5)


def some_books(many, most=None):
    return [models.random_book(seed, states=2 + seed % 3, most=most) for seed in range(many)]


def told_classes(book):
    told = sorted({name for state in book.states for name in state if name})
    return sorted([*told, next(letter for letter in "abcdefghijklmnopqrstuvwxyz" if letter not in told)])


def next_rows(book, changes, row):
    """All next rows of a row, straight from the definition."""
    state, other, x, y, z, met = row
    names, found = told_classes(book), set()

    def deed(at, name, free):
        return models.behind(book.states, at, name) if free else None

    def add(left, right, more):
        if left is not None or right is not None:
            found.add((state if left is None else left, other if right is None else right,
                       x + (right is None), y + (left is None), z + (left is not None and right is not None),
                       met + more))

    for name in names:
        add(deed(state, name, x + z < book.most), deed(other, name, y + z < book.most), 0)
    if met < changes:
        for one, two in itertools.product([*names, None], repeat=2):
            add(one and deed(state, one, x + z < book.most), two and deed(other, two, y + z < book.most), 1)
    return found


def all_rows(book, changes):
    """All rows that come up."""
    found, fresh = {(0,) * 6}, [(0,) * 6]
    while fresh:
        fresh = [row for ahead in fresh for row in next_rows(book, changes, ahead) if row not in found]
        fresh = list(dict.fromkeys(fresh))
        found.update(fresh)
    return found


def taken_places(book, hosts):
    """The copies of the key 0, of hosts told by classes, None where none stands."""
    told = [(at, name) for at, name in enumerate(hosts) if name is not None]
    taken = models.takes(book.states, book.most, [name for _, name in told])
    return {at for (at, _), is_taken in zip(told, taken) if is_taken}


def all_leaps(book, changes):
    """All leaps, by all rings of at most 2 most places and all changes of them."""
    names, many, found = told_classes(book), 2 * book.most, set()
    for ahead in itertools.product([None, *names], repeat=many):
        one = taken_places(book, ahead)
        for places in itertools.combinations(range(many), changes):
            for news in itertools.product([None, *names], repeat=changes):
                behind = list(ahead)
                for place, name in zip(places, news):
                    behind[place] = name
                two = taken_places(book, behind)
                found.add((len(one - two), len(two - one), len(one & two)))
    return found


def bears_model(triples, read, keep):
    """Whether a book with these leaps bears two numbers, as point 10 says."""
    return not any(x + z >= keep and y + z >= read and x + y + z >= read + keep for x, y, z in triples)
