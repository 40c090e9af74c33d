"""Whether two books are alike, and whether one lies within the other."""

from stayopen.books import paired_books
from stayopen.copied import copied
from stayopen.needs import need_book
from stayopen.verdicts import Verdict


class Alike(Verdict):
    """All pairs of rows that one walk comes to in two alike books."""

    def __init__(self, pairs):
        self.pairs = copied(pairs)

    def __bool__(self):
        return True

    def __eq__(self, other):
        return isinstance(other, Alike) and self.pairs == other.pairs


class Unlike(Verdict):
    """A walk the last host of which just one of two books takes."""

    def __init__(self, word):
        self.word = copied(word)

    def __bool__(self):
        return False

    def __eq__(self, other):
        return isinstance(other, Unlike) and self.word == other.word


class Within(Verdict):
    """All pairs of rows that one walk comes to in a book and one that takes at least as much."""

    def __init__(self, pairs):
        self.pairs = copied(pairs)

    def __bool__(self):
        return True

    def __eq__(self, other):
        return isinstance(other, Within) and self.pairs == other.pairs


class Beyond(Verdict):
    """A walk the last host of which one book takes and the other passes."""

    def __init__(self, word):
        self.word = copied(word)

    def __bool__(self):
        return False

    def __eq__(self, other):
        return isinstance(other, Beyond) and self.word == other.word


def alike(one, other):
    """Whether two books take alike on every ring: an Alike or an Unlike."""
    need_book(one, "one")
    need_book(other, "other")
    pairs, word = paired_books(one, other, True)
    return Alike(tuple(pairs)) if word is None else Unlike(word)


def within(one, other):
    """Whether on every ring each copy by one is a copy by other: a Within or a Beyond."""
    need_book(one, "one")
    need_book(other, "other")
    pairs, word = paired_books(one, other, False)
    return Within(tuple(pairs)) if word is None else Beyond(word)
