"""The lines of a desk: their words, and what these tell."""

from stayopen.book_texts import read_book_text
from stayopen.books import Book
from stayopen.errors import BadCommand, BadText
from stayopen.line_words import name_at, need_end, number_within, place_at
from stayopen.needs import MOST_CHANGES
from stayopen.reader import read_lots, read_ring
from stayopen.step_words import change_at, step_in
from stayopen.steps import STEPS
from stayopen.store import Store

ALONE = ("falls", "undo", "clock", "epoch", "settled", "letters", "guard", "calm", "page")
OF_A_KEY = ("copies", "history", "order")
OF_CHANGES = ("leaps", "bears")
SETTINGS = ("book", "ring", "lots")


def words_of(line):
    """The tuple of the words of a line."""
    if not isinstance(line, str):
        raise BadCommand(0)
    return tuple(line.split(" "))


def told_by(line):
    """The first word of a line, and what the line tells behind it."""
    words = words_of(line)
    word = words[0]
    try:
        return word, told_behind(word, words, line)
    except BadText as error:
        raise BadCommand(error.word)


def told_behind(word, words, line):
    """What a line tells behind its first word; raises BadText with the index of a word that cannot stand."""
    if word in SETTINGS:
        return setting_in(word, line)
    if word in STEPS:
        return step_in(words)
    if word == "stopped":
        return tuple([place_at(words, at) for at in range(1, len(words))])
    if word == "open":
        return cares_in(words)
    told, end = parts_behind(word, words)
    need_end(words, end)
    return told


def setting_in(word, line):
    """The book, the ring or the lots of a line."""
    if word == "book":
        states, most = read_book_text(line)
        return Book(*states, most=most)
    return read_ring(line) if word == "ring" else read_lots(line)


def cares_in(words):
    """The cares that the words behind the first one tell, each once."""
    found = []
    for at in range(1, len(words)):
        if words[at] not in Store.CARES or words[at] in found:
            raise BadText(0, at)
        found.append(words[at])
    return found


def parts_behind(word, words):
    """What lines of just so many words tell behind the first one, and the index behind them all."""
    if word in ALONE:
        return None, 1
    if word in OF_A_KEY:
        return place_at(words, 1), 2
    if word in OF_CHANGES:
        return number_within(words, 1, 1, MOST_CHANGES), 2
    if word == "ends":
        return name_at(words, 1), 2
    if word == "kept":
        return (place_at(words, 1), place_at(words, 2)), 3
    # Any other first word cannot stand.
    change = change_at(words, 0)
    return change, len(change)
