"""The words of lines: names and numbers, each of which raises BadText where it cannot stand."""

from stayopen.checks import MOST_PLACE, is_name
from stayopen.errors import BadText
from stayopen.words import is_number_word, word_at

MOST_DIGITS = 40


def need_end(words, at):
    """Raises BadText if a word stands behind the last one."""
    if at < len(words):
        raise BadText(0, at)


def name_at(words, at):
    """The name that stands at an index."""
    word = word_at(words, at)
    if not is_name(word):
        raise BadText(0, at)
    return word


def whole_at(words, at):
    """The integer from 0 on, of at most 40 digits, that stands at an index."""
    word = word_at(words, at)
    if not is_number_word(word) or len(word) > MOST_DIGITS:
        raise BadText(0, at)
    return int(word)


def number_within(words, at, least, most):
    """The integer from least to most that stands at an index."""
    number = whole_at(words, at)
    if not least <= number <= most:
        raise BadText(0, at)
    return number


def place_at(words, at):
    """The place, or the key, that stands at an index."""
    return number_within(words, at, 0, MOST_PLACE)


def value_at(words, at):
    """The integer of at most 40 digits, also below 0, that stands at an index."""
    word = word_at(words, at)
    if word is None or word[:1] != "-":
        return whole_at(words, at)
    digits = word[1:]
    if not is_number_word(digits) or len(digits) > MOST_DIGITS or digits == "0":
        raise BadText(0, at)
    return -int(digits)


def whole_or_none(words, at):
    """The integer from 0 on that stands at an index, None for a dash."""
    return None if word_at(words, at) == "-" else whole_at(words, at)
