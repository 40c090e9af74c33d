"""Least books, and papers that show that they are least."""

from stayopen.books import classes
from stayopen.copied import copied
from stayopen.lessening import least_of
from stayopen.needs import need_book
from stayopen.tables import free_letter, rows_behind, rows_from, table_of


class Lessened:
    """The least book of a book, its state for each row, and what parts its states."""

    def __init__(self, least, lots, parted):
        self.least = copied(least)
        self.lots = copied(lots)
        self.parted = copied(parted)

    def __eq__(self, other):
        if not isinstance(other, Lessened):
            return False
        return self.least == other.least and self.lots == other.lots and self.parted == other.parted


def rows(book):
    """The tuple of the rows (state, copies) that walks come to, by their first mention."""
    need_book(book, "book")
    return tuple(rows_from(table_of(book.states, classes(book)), book.most))


def least(book):
    """The one book with the fewest states that takes alike and tells the stop by its states."""
    return least_with_lots(book)[0]


def lessened(book):
    """The least book, with what shows that it has no state too many."""
    told, lots = least_with_lots(book)
    return Lessened(told, lots, parting_words(told))


def least_with_lots(book):
    """The least book, and the tuple of its states for the rows of the book."""
    found = rows(book)
    names = classes(book)
    table = table_of(book.states, names)
    numbers = {found[at]: at for at in range(len(found))}
    graph = [[numbers.get(row) for row in rows_behind(table, book.most, one)] for one in found]
    return least_of(graph, names, free_letter(book.names), max([copies for _, copies in found]))


def parting_words(book):
    """For each two states of a least book the least of the shortest walks that part them."""
    names = classes(book)
    table = table_of(book.states, names)
    many = len(table)
    words = {}
    unparted = [(one, other) for one in range(many) for other in range(one + 1, many)]
    while len(unparted) > 0:
        # A walk of n hosts parts what the first one leads to by n - 1, found a round ago.
        news = {pair: parting_word(table, names, pair, words) for pair in unparted}
        for pair in unparted:
            if news[pair] is not None:
                words[pair] = news[pair]
        unparted = [pair for pair in unparted if news[pair] is None]
    return tuple([(one, other, words[(one, other)]) for one, other in sorted(list(words))])


def parting_word(table, names, pair, words):
    """The least walk that parts two states by one host, or by one host and a known walk."""
    for at in range(len(names)):
        left = table[pair[0]][at]
        right = table[pair[1]][at]
        if (left is None) != (right is None):
            return (names[at],)
        if left is not None:
            ahead = (min(left, right), max(left, right))
            if ahead in words:
                return (names[at],) + words[ahead]
    return None
