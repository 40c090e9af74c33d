"""A looker for the two guards: it counts, and searches nothing."""

from stayopen.checks import is_within
from stayopen.guards import Gap, Guard, guard_row, guard_rows, keys_asked
from stayopen.player import need_player
from stayopen.same import is_lot_of, is_same


def shows_guard(player, value):
    """Whether any value is the Guard or a Gap of this moment of a play."""
    need_player(player)
    if isinstance(value, Guard):
        return is_guard(player, value.rows)
    if not isinstance(value, Gap) or not is_within(value.epoch, 0, player.epoch):
        return False
    if not any([is_same(value.key, key) for key in keys_asked(player)]):
        return False
    word, _, places = guard_row(player, value.key, value.epoch)
    return is_same(value.word, word) and is_lot_of(places, player.store.lots.read, value.places)


def is_guard(player, value):
    """Whether any value tells all rows of this moment, none of them with too many copies."""
    rows = tuple([(*row[:4], len(row[4])) for row in guard_rows(player)])
    return is_same(value, rows) and all([row[4] < player.store.lots.read for row in rows])
