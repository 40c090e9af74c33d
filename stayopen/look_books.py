"""Lookers for the papers on books: they go along what a paper tells, and search nothing."""

from stayopen.alike_books import Alike, Beyond, Unlike, Within
from stayopen.books import Book, classes
from stayopen.checks import is_integer, is_name, is_within
from stayopen.least_books import Lessened, rows
from stayopen.needs import need_book
from stayopen.tables import behind_in, is_parting, pair_behind, rows_behind, table_of


def shows_alike(one, other, value):
    """Whether any value is an Alike or an Unlike that is right of two books."""
    need_book(one, "one")
    need_book(other, "other")
    if isinstance(value, Alike):
        return are_closed_pairs(one, other, value.pairs, True)
    if not isinstance(value, Unlike) or not is_walk(value.word):
        return False
    names = value.word
    return one.takes(*names)[-1] != other.takes(*names)[-1]


def shows_within(one, other, value):
    """Whether any value is a Within or a Beyond that is right of two books."""
    need_book(one, "one")
    need_book(other, "other")
    if isinstance(value, Within):
        return are_closed_pairs(one, other, value.pairs, False)
    if not isinstance(value, Beyond) or not is_walk(value.word):
        return False
    names = value.word
    return one.takes(*names)[-1] and not other.takes(*names)[-1]


def is_walk(value):
    """Whether any value is a tuple of one or more names."""
    return isinstance(value, tuple) and len(value) > 0 and all([is_name(part) for part in value])


def is_pair(value):
    """Whether any value is a tuple of two."""
    return isinstance(value, tuple) and len(value) == 2


def is_row(many, most, value):
    """Whether any value is a pair of one of so many states and a number of copies up to most."""
    return is_pair(value) and is_within(value[0], 0, many - 1) and is_within(value[1], 0, most)


def are_closed_pairs(one, other, pairs, either):
    """Whether pairs of rows show that no walk parts two books: they part at none of them,
    the first ones are among them, and with each pair all that come behind it."""
    if not isinstance(pairs, tuple) or not all([is_pair(pair) for pair in pairs]):
        return False
    names = classes(one, other)
    first = (table_of(one.states, names), one.most)
    second = (table_of(other.states, names), other.most)
    if not all([is_row(len(first[0]), first[1], pair[0]) for pair in pairs]):
        return False
    if not all([is_row(len(second[0]), second[1], pair[1]) for pair in pairs]):
        return False
    told = {pair: True for pair in pairs}
    if ((0, 0), (0, 0)) not in told:
        return False
    return all([is_closed_pair(first, second, pair, told, either) for pair in pairs])


def is_closed_pair(one, other, pair, told, either):
    """Whether no class parts two tables at a pair of rows, and what is behind it is told."""
    for at in range(len(one[0][0])):
        left, right, ahead = pair_behind(one, other, pair, at)
        if is_parting(left, right, either) or ahead not in told:
            return False
    return True


def shows_lessened(book, value):
    """Whether any value is a Lessened that shows a least number of states of a book."""
    need_book(book, "book")
    if not isinstance(value, Lessened) or not isinstance(value.least, Book):
        return False
    if value.least.most != max(book.room, 1):
        return False
    if not are_states_of_rows(book, value.least, value.lots):
        return False
    return are_partings(value.least, value.parted)


def are_states_of_rows(book, least, lots):
    """Whether lots tells for each row of a book a state of the least one that does as it does."""
    told = rows(book)
    many = len(least.states)
    if not isinstance(lots, tuple) or len(lots) != len(told):
        return False
    if not all([is_within(state, 0, many - 1) for state in lots]):
        return False
    if lots[0] != 0 or len(set(lots)) != many:
        return False
    names = classes(book, least)
    table = table_of(book.states, names)
    least_table = table_of(least.states, names)
    state_of = {told[at]: lots[at] for at in range(len(told))}
    for row in told:
        behind = rows_behind(table, book.most, row)
        if [state_of.get(ahead) for ahead in behind] != least_table[state_of[row]]:
            return False
    return True


def are_partings(least, parted):
    """Whether parted tells, for each two states of a book, a walk that parts them."""
    states = least.states
    many = len(states)
    pairs = [(one, other) for one in range(many) for other in range(one + 1, many)]
    if not isinstance(parted, tuple) or len(parted) != len(pairs):
        return False
    for at in range(len(pairs)):
        if not is_parting_row(states, pairs[at], parted[at]):
            return False
    return True


def is_parting_row(states, pair, value):
    """Whether any value is the triple of two states and a walk that parts them."""
    if not isinstance(value, tuple) or len(value) != 3 or not is_walk(value[2]):
        return False
    if not is_integer(value[0]) or not is_integer(value[1]) or value[:2] != pair:
        return False
    return takes_last(states, pair[0], value[2]) != takes_last(states, pair[1], value[2])


def takes_last(states, first, word):
    """Whether the last host of a walk that begins in a state is taken, with no stop."""
    state = first
    behind = None
    for name in word:
        behind = behind_in(states[state], name)
        if behind is not None:
            state = behind
    return behind is not None
