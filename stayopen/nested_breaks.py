"""Runs that break lots of nested quotas that are wrong."""

from stayopen.breaking import run_apart
from stayopen.errors import Nothing
from stayopen.four_lots import four
from stayopen.lots import need_lots
from stayopen.nested import need_nested, need_quotas
from stayopen.nested_runs import full_player, full_ring, run_forgotten, run_left_open
from stayopen.runs import Run
from stayopen.store import Store


def nested_break(quotas, lots):
    """A Run whose answers fit no order, of four lots of nested quotas that are wrong."""
    need_quotas(quotas)
    need_lots(lots)
    need_nested(quotas)
    book = quotas.as_book()
    told = four(quotas, lots)
    if told:
        raise Nothing()
    if told.word == "keep":
        return break_meeting(quotas, book, lots)
    if told.word == "spare" and lots.spare < lots.keep:
        player = full_player(quotas, book, lots, lots.read)
        run_left_open(player, player.copies_of(0, 0)[:lots.read])
    else:
        player = full_player(quotas, book, lots, lots.keep)
        run_forgotten(player, player.copies_of(0, 0)[:lots.keep])
    return Run(player.store, player.deeds, 0)


def break_meeting(quotas, book, lots):
    """A Run of a read lot and a keep lot that need not meet behind one change."""
    ring = full_ring(quotas, 1)
    # The host at 0 goes, and the last one takes its place: the lots begin at both ends.
    heard = range(lots.read)
    kept = range(len(ring) - lots.keep, len(ring))
    return run_apart(Store(ring, book, lots), (("go", 0),), tuple(kept), tuple(heard))
