"""Quotas: books told by how many copies some lots of classes may have."""

from stayopen.checks import is_name, is_within
from stayopen.errors import BadName, BadQuota, TooMany
from stayopen.lessening import least_of
from stayopen.quota_counts import count_graph, counts_behind, lot_holding
from stayopen.quota_texts import pairs_text, read_quotas_text
from stayopen.tables import free_letter
from stayopen.words import is_word

MOST_PAIRS = 8
MOST_CLASSES = 8


class Quotas:
    """Quotas of some pairs of a number and a lot of classes."""

    def __init__(self, *pairs, most=3):
        check_quotas(pairs, most)
        self.pairs = tuple([(many, tuple(sorted(words))) for many, words in pairs])
        self.most = most
        self.names = names_in(self.pairs)

    def takes(self, *names):
        """For a walk through hosts of these classes, whether each of them is taken."""
        for name in names:
            if not is_name(name):
                raise BadName(name)
        counts = tuple([0 for _ in self.pairs])
        copies = 0
        taken = []
        for name in names:
            lot = lot_holding(self.pairs, self.names, name)
            behind = counts_behind(self.pairs, counts, lot)
            is_taken = copies < self.most and behind is not None
            if is_taken:
                counts = behind
                copies += 1
            taken.append(is_taken)
        return tuple(taken)

    def as_book(self):
        """The least book that takes alike."""
        free = free_letter(self.names)
        names = sorted([*self.names, free])
        graph, room = count_graph(self.pairs, self.names, names, self.most)
        return least_of(graph, names, free, room)[0]

    def __add__(self, other):
        if not isinstance(other, Quotas):
            raise BadQuota("other")
        if len(self.pairs) + len(other.pairs) > MOST_PAIRS:
            raise TooMany("pairs", MOST_PAIRS)
        if len(set([*self.names, *other.names])) > MOST_CLASSES:
            raise TooMany("classes", MOST_CLASSES)
        ours = widened(self.pairs, self.names, other.names)
        theirs = widened(other.pairs, other.names, self.names)
        pairs = [*ours, *theirs]
        most = min(self.most, other.most)
        return Quotas(*pairs, most=most)

    def __eq__(self, other):
        if not isinstance(other, Quotas):
            return False
        return self.pairs == other.pairs and self.most == other.most

    def __str__(self):
        return f"{self.most} : {pairs_text(self.pairs)}"

    @classmethod
    def from_text(cls, text):
        """The quotas whose text this is."""
        pairs, most = read_quotas_text(text)
        return cls(*pairs, most=most)


def names_in(pairs):
    """The ascending tuple of the names that stand in some pairs."""
    return tuple(sorted({word for _, words in pairs for word in words if word != ""}))


def is_pair_of_quotas(value):
    """Whether any value is a pair of a number from 0 to 5 and 1 to 9 unlike words."""
    if not isinstance(value, tuple) or len(value) != 2 or not is_within(value[0], 0, 5):
        return False
    words = value[1]
    if not isinstance(words, tuple) or not 1 <= len(words) <= 9:
        return False
    return all([is_word(word) for word in words]) and len(set(words)) == len(words)


def check_quotas(pairs, most):
    """Raises the error of the first part of quotas that is wrong."""
    for at in range(len(pairs)):
        if not is_pair_of_quotas(pairs[at]):
            raise BadQuota(at)
    if len(pairs) > MOST_PAIRS:
        raise TooMany("pairs", MOST_PAIRS)
    if len(names_in(pairs)) > MOST_CLASSES:
        raise TooMany("classes", MOST_CLASSES)
    if not is_within(most, 1, 5):
        raise BadQuota("most")


def widened(pairs, names, others):
    """The pairs of quotas that name these names, where others are named beside them."""
    news = [name for name in others if name not in names]
    return [(many, (*words, *news) if "" in words else words) for many, words in pairs]
