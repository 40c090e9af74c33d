"""The texts of quotas."""

from stayopen.errors import BadText
from stayopen.words import is_key_above, key_of, key_words, need_word, word_at, words_in

MOSTS = ("1", "2", "3", "4", "5")
NUMBERS = ("0", "1", "2", "3", "4", "5")
MOST_WORDS = 9


def pairs_text(pairs):
    """The words of some pairs."""
    return "-" if len(pairs) == 0 else " ; ".join([pair_text(pair) for pair in pairs])


def pair_text(pair):
    """The words of one pair."""
    many, keys = pair
    return " ".join([str(many), *key_words(keys)])


def read_quotas_text(text):
    """The pairs and the most that the text of quotas tells; raises BadText."""
    words = words_in(text)
    most = number_among(words, 0, MOSTS)
    need_word(words, 1, ":")
    if word_at(words, 2) == "-":
        if len(words) > 3:
            raise BadText(0, 3)
        return [], most
    pair, at = read_pair(words, 2)
    pairs = [pair]
    while at < len(words):
        need_word(words, at, ";")
        pair, at = read_pair(words, at + 1)
        pairs.append(pair)
    return pairs, most


def number_among(words, at, told):
    """The integer that stands at an index, by one of the told words."""
    word = word_at(words, at)
    if word not in told:
        raise BadText(0, at)
    return int(word)


def read_pair(words, first):
    """The pair that begins at a word, and the index behind it."""
    many = number_among(words, first, NUMBERS)
    keys = []
    last = None
    at = first + 1
    while len(keys) < MOST_WORDS and is_key_above(word_at(words, at), last):
        last = words[at]
        keys.append(key_of(last))
        at += 1
    if len(keys) == 0:
        raise BadText(0, at)
    return (many, tuple(keys)), at
