"""The words of texts of one line, and the words that stand for classes."""

from stayopen.checks import is_name
from stayopen.errors import BadText

DIGITS = "0123456789"
MOST_DIGITS = 41


def is_word(value):
    """Whether any value is a name, or the empty string that stands for all others."""
    return is_name(value) or (isinstance(value, str) and value == "")


def words_in(text):
    """The list of the words of a text."""
    if not isinstance(text, str):
        raise BadText(0, 0)
    return text.split(" ")


def word_at(words, at):
    """The word at an index, None if it is missing."""
    return words[at] if at < len(words) else None


def need_word(words, at, word):
    """Raises BadText unless just this word stands there."""
    if word_at(words, at) != word:
        raise BadText(0, at)


def is_number_word(word):
    """Whether a word stands for an integer from 0 on, as str writes it."""
    if word is None or not 1 <= len(word) <= MOST_DIGITS:
        return False
    if word[0] == "0" and len(word) > 1:
        return False
    return all([sign in DIGITS for sign in word])


def number_at(words, at):
    """The integer from 0 on that stands at an index."""
    word = word_at(words, at)
    if not is_number_word(word):
        raise BadText(0, at)
    return int(word)


def is_key_above(word, last):
    """Whether a word tells a class, or all others, and can stand behind the key last."""
    if last == "*":
        return False
    if word == "*":
        return True
    return is_name(word) and (last is None or word > last)


def key_of(word):
    """The key that a word of a text tells."""
    return "" if word == "*" else word


def key_words(keys):
    """The words of some keys, names ascending, the star behind them."""
    names = sorted([key for key in keys if key != ""])
    return [*names, "*"] if "" in keys else names
