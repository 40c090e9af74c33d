"""Runs that break lots of nested quotas that are wrong."""

from stayopen.errors import Nothing
from stayopen.four_lots import four
from stayopen.lots import need_lots
from stayopen.nested import need_nested, need_quotas
from stayopen.nested_runs import full_player, run_forgotten, run_left_open
from stayopen.runs import Run


def nested_break(quotas, lots):
    """A Run whose answers fit no order, of four lots of nested quotas that are wrong."""
    need_quotas(quotas)
    need_lots(lots)
    need_nested(quotas)
    book = quotas.as_book()
    told = four(quotas, lots)
    if told:
        raise Nothing()
    if told.word == "spare" and lots.spare < lots.keep:
        player = full_player(quotas, book, lots, lots.read)
        run_left_open(player, player.copies_of(0, 0)[:lots.read])
    else:
        # A get misses a keep lot that has gone, whether it met too few copies, or the others were never told.
        player = full_player(quotas, book, lots, lots.keep)
        run_forgotten(player, player.copies_of(0, 0)[:lots.keep])
    return Run(player.store, player.deeds, 0)
