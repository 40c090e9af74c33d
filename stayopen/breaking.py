"""Runs that break lots that a book does not bear."""

from stayopen.bears import bears
from stayopen.errors import Nothing
from stayopen.leading import answer, end_ask, go_on_newest
from stayopen.lots import need_lots
from stayopen.needs import need_book
from stayopen.player import Player
from stayopen.runs import Run
from stayopen.store import Store


def breaking(book, lots, changes=1):
    """A Run of a put and a get whose answers fit no order, of lots that the book does not bear."""
    need_book(book, "book")
    need_lots(lots)
    told = bears(book, lots.read, lots.keep, changes)
    if told:
        raise Nothing()
    store = Store(told.ring, book, lots, changes=changes)
    return run_apart(store, told.changes, told.kept, told.heard)


def run_apart(store, changes, kept, heard):
    """A Run of a put of the key 0 that hosts keep behind some changes, and of a get that hears others.

    Both asks have their round 1 in the epoch 0, and their round 2 behind the changes.
    """
    player = Player(store)
    player.step(("put", "p", 0, 1))
    answer(player, "p", "hear", player.copies_of(0, 0)[:store.lots.read])
    if len(changes) > 0:
        player.step(("begin", *changes))
    go_on_newest(player, "p")
    answer(player, "p", "keep", kept)
    end_ask(player, ("get", "q", 0), heard, ())
    go_on_newest(player, "q")
    answer(player, "q", "keep", kept)
    return Run(store, player.deeds, 0)
