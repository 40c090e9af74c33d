"""Readers of the lines and pages that texts.py writes."""

from stayopen.book_texts import read_book_text
from stayopen.books import Book
from stayopen.errors import BadText, OpenError
from stayopen.histories import Ask
from stayopen.line_words import name_at, need_end, number_within, place_at, whole_at, whole_or_none
from stayopen.lots import MOST_LOT, Lots
from stayopen.needs import MOST_CHANGES
from stayopen.player import Player
from stayopen.rings import Ring
from stayopen.step_words import step_in
from stayopen.store import Store
from stayopen.words import need_word, words_in

FIRST_STEP = 6


def read_ring(text):
    """The Ring of a line."""
    hosts = hosts_in(text)
    return Ring(*hosts)


def read_lots(text):
    """The Lots of a line."""
    words = words_in(text)
    need_word(words, 0, "lots")
    numbers = [number_within(words, at, 1, MOST_LOT) for at in (1, 2, 3)]
    numbers.append(number_within(words, 4, 0, MOST_LOT - 1))
    need_end(words, 5)
    return Lots(*numbers)


def read_step(text):
    """The step of a line."""
    return step_in(words_in(text))


def read_ask(text):
    """The Ask of a line."""
    words = words_in(text)
    word = words[0]
    if word not in ("put", "get"):
        raise BadText(0, 0)
    client = name_at(words, 1)
    begun = whole_at(words, 2)
    ended = whole_or_none(words, 3)
    if ended is not None and ended <= begun:
        raise BadText(0, 3)
    if word == "put" or ended is None:
        need_end(words, 4)
        return Ask(client, word, begun, ended)
    told = whole_or_none(words, 4)
    need_end(words, 5)
    return Ask(client, word, begun, ended, told)


def read_history(text):
    """The list of the Asks of a page."""
    lines = lines_in(text)
    read_line(lines, 0, read_history_head)
    return [read_line(lines, at, read_ask) for at in range(1, len(lines))]


def read_play(text):
    """The Player of a page, behind its steps."""
    lines = lines_in(text)
    read_line(lines, 0, read_play_head)
    states, most = read_line(lines, 1, read_book_text)
    hosts = read_line(lines, 2, hosts_in)
    lots = read_line(lines, 3, read_lots)
    cares = read_line(lines, 4, read_cares)
    changes = read_line(lines, 5, read_changes)
    if not can_be_made(states, most, hosts):
        # The lines of the steps come first, and then what the class raises.
        for at in range(FIRST_STEP, len(lines)):
            read_line(lines, at, read_step)
    book = Book(*states, most=most)
    player = Player(Store(Ring(*hosts), book, lots, cares, changes))
    for at in range(FIRST_STEP, len(lines)):
        step = read_line(lines, at, read_step)
        if not player.attempt(step):
            raise BadText(at, 0)
    return player


def lines_in(text):
    """The list of the lines of a page."""
    if not isinstance(text, str):
        raise BadText(0, 0)
    return text.split("\n")


def read_line(lines, at, read):
    """What a reader of one line reads of the line at an index; raises BadText with this index."""
    if at >= len(lines):
        raise BadText(at, 0)
    try:
        return read(lines[at])
    except BadText as error:
        raise BadText(at, error.word)


def read_history_head(line):
    """The line ahead of the asks."""
    words = words_in(line)
    need_word(words, 0, "history")
    need_end(words, 1)


def read_play_head(line):
    """The first line of a play."""
    words = words_in(line)
    need_word(words, 0, "play")
    need_end(words, 1)


def hosts_in(line):
    """The hosts of the line of a ring."""
    words = words_in(line)
    need_word(words, 0, "ring")
    hosts = []
    at = 1
    while at < len(words):
        place = place_at(words, at)
        if len(hosts) > 0 and place <= hosts[-1][0]:
            raise BadText(0, at)
        hosts.append((place, name_at(words, at + 1)))
        at += 2
    return hosts


def read_cares(line):
    """The cares that a line tells, ascending."""
    words = words_in(line)
    need_word(words, 0, "cares")
    cares = []
    for at in range(1, len(words)):
        if words[at] not in Store.CARES or len(cares) > 0 and words[at] <= cares[-1]:
            raise BadText(0, at)
        cares.append(words[at])
    return cares


def read_changes(line):
    """The number of changes that a line tells."""
    words = words_in(line)
    need_word(words, 0, "changes")
    changes = number_within(words, 1, 1, MOST_CHANGES)
    need_end(words, 2)
    return changes


def can_be_made(states, most, hosts):
    """Whether a book and a ring can be made of these parts."""
    try:
        Book(*states, most=most)
        Ring(*hosts)
    except OpenError:
        return False
    return True
