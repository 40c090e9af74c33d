"""A desk: lines that set a book, a ring and lots, and play them."""

from stayopen.books import Book
from stayopen.desk_answers import answer_of_desk, answer_of_play, is_of_desk, is_of_play
from stayopen.desk_lines import told_by
from stayopen.errors import Nothing, OpenError
from stayopen.lots import Lots
from stayopen.player import Player
from stayopen.rings import Ring
from stayopen.store import Store

MOST_CHANGES_OF_PLAYS = 3


class Desk:
    """A book, a ring, lots, and a play once one is begun."""

    def __init__(self):
        self.book = Book({"": 0})
        self.ring = Ring()
        self.lots = Lots(2, 3)
        self._player = None

    def say(self, line):
        """Carries out a line, and returns its answer."""
        word, told = told_by(line)
        if is_of_desk(word):
            return answer_of_desk(self, word, told)
        if word == "open":
            self._player = Player(Store(self.ring, self.book, self.lots, told, MOST_CHANGES_OF_PLAYS))
            return "ok"
        if not is_of_play(word):
            return set_part(self, word, told)
        if self._player is None:
            raise Nothing()
        return answer_of_play(self._player, word, told)

    def say_all(self, *lines):
        """The tuple of the answers to some lines; if one raises an error, the desk is as it was."""
        book = self.book
        ring = self.ring
        lots = self.lots
        player = self.played()
        answers = []
        try:
            for line in lines:
                answers.append(self.say(line))
        except OpenError:
            self.book = book
            self.ring = ring
            self.lots = lots
            self._player = player
            raise
        return tuple(answers)

    def played(self):
        """A twin of the player of the play, None without a play."""
        return None if self._player is None else self._player.twin()


def set_part(desk, word, told):
    """The desk takes a book, a ring, lots, or its ring is changed: what it answers."""
    if word == "book":
        desk.book = told
        return str(told.room)
    if word == "lots":
        desk.lots = told
        return "ok"
    desk.ring = told if word == "ring" else desk.ring.changed(told)
    return str(len(desk.ring))
