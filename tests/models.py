"""Slow and plain models of what the document defines, and values made by a told seed."""

import itertools
import random

from stayopen.books import Book


def random_book(seed, names=("a", "b"), states=4, most=None):
    """A book made by a seed: each state tells some of the names, perhaps all others."""
    made = random.Random(seed)
    told = []
    for _ in range(states):
        state = {}
        for name in [*names, ""]:
            if made.random() < 0.7:
                state[name] = made.choice([None, *range(states)])
        told.append(state)
    return Book(*told, most=made.randint(1, 5) if most is None else most)


def words_up_to(names, most):
    """All tuples of names with at most so many, the shortest first, then ascending."""
    for many in range(1, most + 1):
        yield from itertools.product(sorted(names), repeat=many)


def behind(states, state, name):
    """The state behind a host, None if it is passed, straight from the definition."""
    if name in states[state]:
        return states[state][name]
    return states[state].get("")


def takes(states, most, names):
    """What a book takes of a walk, straight from the definition."""
    state, told = 0, []
    for name in names:
        ahead = behind(states, state, name)
        if ahead is not None and sum(told) < most:
            state = ahead
            told.append(True)
        else:
            told.append(False)
    return tuple(told)


def deeds(book, names, row):
    """All that walks of these classes do from a row on, as nested tuples."""
    state, copies = row
    told = []
    for name in names:
        ahead = behind(book.states, state, name) if copies < book.most else None
        told.append(None if ahead is None else deeds(book, names, (ahead, copies + 1)))
    return tuple(told)
