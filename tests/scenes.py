"""Small helpers for plays that are told step by step."""

from stayopen.books import Book
from stayopen.lots import Lots
from stayopen.player import Player
from stayopen.rings import Ring
from stayopen.store import Store


def plain_player(hosts=3, most=3, lots=None, cares=(), changes=1, place=10):
    """A player of hosts at 0, 10, 20 .. and of a book that takes every host."""
    ring = Ring(*[(at * place, "a") for at in range(hosts)])
    return Player(Store(ring, Book({"": 0}, most=most), Lots(2, 3) if lots is None else lots, cares, changes))


def on_way(player, word=None, **parts):
    """The numbers of the letters on the way with this word and these attributes."""
    return [letter.number for letter in player.letters()
            if word in (None, letter.word) and all(getattr(letter, name) == part for name, part in parts.items())]


def give(player, word, places=None, number=None):
    """Passes the letters with this word that are on the way now, those to or from some places alone.

    With a number only those of the ask with this number.
    """
    for letter in list(player.letters()):
        place = letter.receiver if isinstance(letter.receiver, int) else letter.sender
        if letter.word == word and (places is None or place in places) and number in (None, letter.parts[0]):
            player.step(("pass", letter.number))


def ask(player, *step, read=None, keep=None):
    """An ask that goes through both rounds at once, with the hosts at some places alone."""
    player.step(step)
    number = player.asking(step[1]).ask
    give(player, "hear", read, number)
    give(player, "heard", read, number)
    give(player, "keep", keep, number)
    give(player, "kept", keep, number)


def settle(player, fence=None, sweep=None):
    """The keeper's letters come, and their answers, of the hosts at some places alone."""
    give(player, "fence", fence)
    give(player, "fenced", fence)
    give(player, "sweep", sweep)
    give(player, "swept", sweep)


def letters(player):
    """The letters on the way as tuples."""
    return [(letter.number, letter.sender, letter.receiver, letter.word, letter.parts) for letter in player.letters()]
