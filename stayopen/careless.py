"""Runs that break right lots of nested quotas of which one row of care is left out."""

from stayopen.errors import BadCare, Clashing, Nothing
from stayopen.four_lots import four
from stayopen.leading import answer, end_ask, letters_of, newest_letter
from stayopen.lots import need_lots
from stayopen.nested import need_nested, need_quotas
from stayopen.nested_runs import full_player, run_forgotten
from stayopen.runs import Run
from stayopen.store import Store


def careless(quotas, lots, care):
    """A Run whose answers fit no order, of right lots of nested quotas and this care left out."""
    need_quotas(quotas)
    need_lots(lots)
    if care not in Store.CARES:
        raise BadCare(care)
    need_nested(quotas)
    book = quotas.as_book()
    told = four(quotas, lots)
    if not told:
        raise Clashing("lots")
    if told.idle:
        raise Nothing()
    player = full_player(quotas, book, lots, lots.keep, (care,))
    break_care(player, care)
    return Run(player.store, player.deeds, 0)


def break_care(player, care):
    """The steps that break a play without this care."""
    if care == "back":
        break_back(player)
    elif care == "early":
        run_forgotten(player, player.copies_of(0, 0)[:player.store.lots.keep])
    elif care == "older":
        break_older(player)
    elif care == "stamp":
        break_stamp(player)
    else:
        break_like(player, care)


def read_lot(player):
    """The first copies of the key 0 in the newest epoch, as many as are heard."""
    return player.copies_of(0, player.epoch)[:player.store.lots.read]


def keep_lot(player):
    """The first copies of the key 0 in the newest epoch, as many as keep."""
    return player.copies_of(0, player.epoch)[:player.store.lots.keep]


def begin_put(player, client, value):
    """A client puts a value at the key 0, up to the round 2."""
    player.step(("put", client, 0, value))
    answer(player, client, "hear", read_lot(player))


def get_hearing(player, client, heard):
    """A client gets the key 0, and hears these hosts."""
    end_ask(player, ("get", client, 0), heard, keep_lot(player))


def break_back(player):
    """A put is kept by one host alone; a get tells it, the host goes, and a get tells nothing."""
    first = read_lot(player)
    begin_put(player, "p", 1)
    answer(player, "p", "keep", first[:1])
    end_ask(player, ("get", "q", 0), first, ())
    player.step(("begin", ("go", first[0])))
    player.step(("tell", "r"))
    end_ask(player, ("get", "r", 0), read_lot(player), ())


def break_older(player):
    """The letters of a put come once more behind those of a greater one."""
    begin_put(player, "p", 1)
    letters = letters_of(player, "p", "keep")
    for place in keep_lot(player):
        player.step(("twin", letters[place]))
        player.step(("pass", newest_letter(player)))
    begin_put(player, "q", 2)
    answer(player, "q", "keep", keep_lot(player))
    for number in letters.values():
        player.step(("pass", number))
    get_hearing(player, "r", read_lot(player))


def break_stamp(player):
    """A put that was told already goes on behind a greater one, and has a greater stamp then."""
    begin_put(player, "p", 1)
    answer(player, "p", "keep", read_lot(player)[:1])
    get_hearing(player, "q", read_lot(player))
    begin_put(player, "r", 2)
    answer(player, "r", "keep", keep_lot(player))
    player.step(("again", "p"))
    answer(player, "p", "hear", read_lot(player))
    answer(player, "p", "keep", keep_lot(player))
    get_hearing(player, "s", read_lot(player))


def break_like(player, care):
    """Two puts have stamps that are alike, and each get tells the one that it hears first."""
    begin_put(player, "p", 1)
    letters = letters_of(player, "p", "keep")
    client = "q"
    if care == "number":
        player.step(("drop", "p"))
        client = "p"
    begin_put(player, client, 2)
    first = read_lot(player)[0]
    player.step(("pass", letters[first]))
    answer(player, client, "keep", keep_lot(player))
    get_hearing(player, "r", read_lot(player))
    get_hearing(player, "s", read_lot(player)[::-1])
