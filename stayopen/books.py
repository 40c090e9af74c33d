"""Books: machines that tell, by the classes of hosts, which of them are copies."""

from stayopen.book_texts import read_book_text, states_text
from stayopen.checks import is_name, is_within
from stayopen.errors import BadBook, BadName, BadNumber, TooMany
from stayopen.tables import behind_in, free_letter, paired_rows, rows_from, table_of, told_names
from stayopen.words import is_word

MOST_STATES = 64
MOST_NAMES = 8


class Book:
    """A book of some states, each a dict from names to the states behind."""

    def __init__(self, *states, most=3):
        check_book(states, most)
        self._states = tuple([{key: state[key] for key in state} for state in states])
        # Other classes store a most and names, too, so here they are no properties.
        self.most = most
        self.names = tuple(told_names(states))

    @property
    def states(self):
        """A new tuple of new dicts."""
        return tuple([{key: state[key] for key in state} for state in self._states])

    @property
    def room(self):
        """The greatest number of copies that any ring has."""
        table = table_of(self._states, classes(self))
        return max([copies for _, copies in rows_from(table, self.most)])

    def step(self, state, name):
        """The state behind a host of this class in a state, None if it is passed."""
        if not is_within(state, 0, len(self._states) - 1):
            raise BadNumber(state)
        if not is_name(name):
            raise BadName(name)
        return behind_in(self._states[state], name)

    def takes(self, *names):
        """For a walk through hosts of these classes, whether each of them is taken."""
        for name in names:
            if not is_name(name):
                raise BadName(name)
        state = 0
        copies = 0
        taken = []
        for name in names:
            behind = behind_in(self._states[state], name)
            is_taken = copies < self.most and behind is not None
            if is_taken:
                state = behind
                copies += 1
            taken.append(is_taken)
        return tuple(taken)

    def __and__(self, other):
        if not isinstance(other, Book):
            raise BadBook("other")
        names = classes(self, other)
        # One of the classes is the free letter, which is no name of either book.
        if len(names) > MOST_NAMES + 1:
            raise BadBook("names")
        states = common_states(self.states, other.states, names)
        most = min(self.most, other.most)
        return Book(*states, most=most)

    def __eq__(self, other):
        if not isinstance(other, Book):
            return False
        return paired_books(self, other, True)[1] is None

    def __str__(self):
        return f"book {self.most} : {states_text(self._states)}"

    @classmethod
    def from_text(cls, text):
        """The book whose text this is."""
        states, most = read_book_text(text)
        return cls(*states, most=most)


def classes(*books):
    """All names that some books tell, and their free letter, ascending."""
    if not 1 <= len(books) <= 3:
        raise BadBook("books")
    for book in books:
        if not isinstance(book, Book):
            raise BadBook("books")
    names = [name for book in books for name in book.names]
    return tuple(sorted(set([*names, free_letter(names)])))


def paired_books(one, other, either):
    """The pairs of rows of two books, and the walk that parts them, as paired_rows tells."""
    names = classes(one, other)
    first = (table_of(one.states, names), one.most)
    second = (table_of(other.states, names), other.most)
    return paired_rows(first, second, names, either)


def check_book(states, most):
    """Raises BadBook with the first part of a book that is wrong."""
    if not 1 <= len(states) <= MOST_STATES:
        raise BadBook("states")
    if not all([isinstance(state, dict) for state in states]):
        raise BadBook("states")
    if not all([is_word(key) for state in states for key in state]):
        raise BadBook("name")
    behinds = [state[key] for state in states for key in state]
    if not all([behind is None or is_within(behind, 0, len(states) - 1) for behind in behinds]):
        raise BadBook("next")
    if len(told_names(states)) > MOST_NAMES:
        raise BadBook("names")
    if not is_within(most, 1, 5):
        raise BadBook("most")


def common_states(one, other, names):
    """The states of the book that takes what both take; names are the classes of both."""
    free = free_letter([*told_names(one), *told_names(other)])
    numbers = {(0, 0): 0}
    pairs = [(0, 0)]
    states = []
    while len(states) < len(pairs):
        left, right = pairs[len(states)]
        state = {}
        for name in names:
            pair = common_behind(one[left], other[right], name)
            if pair is not None and pair not in numbers:
                numbers[pair] = len(pairs)
                pairs.append(pair)
            state["" if name == free else name] = None if pair is None else numbers[pair]
        if len(pairs) > MOST_STATES:
            raise TooMany("states", MOST_STATES)
        states.append(state)
    return states


def common_behind(left, right, name):
    """The pair of the states behind a host that both states take, otherwise None."""
    one = behind_in(left, name)
    other = behind_in(right, name)
    return None if one is None or other is None else (one, other)
