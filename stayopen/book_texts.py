"""The texts of books."""

from stayopen.errors import BadText
from stayopen.words import is_key_above, key_of, key_words, need_word, number_at, word_at, words_in


def states_text(states):
    """The words of some states."""
    return " / ".join([state_text(state) for state in states])


def state_text(state):
    """The words of one state."""
    if len(state) == 0:
        return "."
    return " , ".join([entry_text(state, word) for word in key_words(state)])


def entry_text(state, word):
    """A key of a state, and the state behind it."""
    behind = state[key_of(word)]
    return f"{word} -" if behind is None else f"{word} {behind}"


def read_book_text(text):
    """The states and the most that the text of a book tells; raises BadText."""
    words = words_in(text)
    need_word(words, 0, "book")
    most = number_at(words, 1)
    need_word(words, 2, ":")
    state, at = read_state(words, 3)
    states = [state]
    while at < len(words):
        need_word(words, at, "/")
        state, at = read_state(words, at + 1)
        states.append(state)
    return states, most


def read_state(words, at):
    """The state that begins at a word, and the index behind it."""
    if word_at(words, at) == ".":
        return {}, at + 1
    state = {}
    last = None
    while True:
        key = word_at(words, at)
        if not is_key_above(key, last):
            raise BadText(0, at)
        state[key_of(key)] = state_behind_at(words, at + 1)
        last = key
        if word_at(words, at + 2) != ",":
            return state, at + 2
        at += 3


def state_behind_at(words, at):
    """The state behind that a word tells, None for a host that is passed."""
    return None if word_at(words, at) == "-" else number_at(words, at)
