"""Two gets that show by their answers that a guard does not hold."""

from stayopen.checks import LETTERS
from stayopen.errors import Clashing
from stayopen.guards import Gap, stamp_ended
from stayopen.leading import end_ask
from stayopen.look_guards import shows_guard
from stayopen.player import need_player


def two_gets(player, gap):
    """Steps of two gets, of a Gap of the newest epoch, behind which the answers fit no order."""
    need_player(player)
    # In the newest epoch there are rows of the word kept alone.
    if not isinstance(gap, Gap) or not shows_guard(player, gap) or gap.epoch != player.epoch:
        raise Clashing("gap")
    if len(player.store.cares) > 0:
        raise Clashing("cares")
    standing = [place for place in player.copies_of(gap.key, gap.epoch) if place not in player.fallen]
    latest = [place for place in standing if has_latest(player, gap.key, place)]
    if not all([place in standing for place in gap.places]):
        raise Clashing("fallen")
    if len(standing) < player.store.lots.keep or len(latest) == 0:
        raise Clashing("fallen")
    twin = player.twin()
    one, other = two_clients(player)
    keepers = standing[:player.store.lots.keep]
    # The first get lets no copy keep the latest stamp, so the second one can do without its places but one.
    get_newest(twin, one, gap.key, gap.places, keepers)
    get_newest(twin, other, gap.key, (latest[0], *gap.places[1:]), keepers)
    return twin.deeds[player.clock:]


def has_latest(player, key, place):
    """Whether a host keeps just the greatest stamp of the asks of a key that have ended."""
    return player.host(place).kept(key).stamp == stamp_ended(player, key)


def two_clients(player):
    """Two clients that have no ask, those that the play knows first, as they need no room."""
    idle = [name for name in player.clients if player.asking(name) is None]
    free = [name for name in LETTERS if name not in player.clients]
    return (*idle, *free)[:2]


def get_newest(player, client, key, heard, kept):
    """A client gets a key in the newest epoch; these hosts answer."""
    known = player.known(client) if client in player.clients else 0
    if known < player.epoch:
        player.step(("tell", client))
    end_ask(player, ("get", client, key), heard, kept)
