"""The two guards: how many copies of each key could let an old value be told, at a moment of a play."""

from stayopen.copied import copied
from stayopen.player import need_player
from stayopen.stamps import nothing
from stayopen.verdicts import Verdict


class Guard(Verdict):
    """The rows of both guards at a moment at which they hold."""

    def __init__(self, rows):
        self.rows = copied(rows)

    def __bool__(self):
        return True

    def __eq__(self, other):
        return isinstance(other, Guard) and self.rows == other.rows


class Gap(Verdict):
    """A row of the guards that does not hold, and as many copies as are heard, all counted by it."""

    def __init__(self, key, epoch, word, places):
        self.key = copied(key)
        self.epoch = copied(epoch)
        self.word = copied(word)
        self.places = copied(places)

    def __bool__(self):
        return False

    def __eq__(self, other):
        if not isinstance(other, Gap):
            return False
        if self.key != other.key or self.epoch != other.epoch:
            return False
        return self.word == other.word and self.places == other.places


def guard(player):
    """A Guard if both guards hold at this moment of a play, otherwise a Gap."""
    need_player(player)
    read = player.store.lots.read
    rows = guard_rows(player)
    for key, epoch, word, _, places in rows:
        if len(places) >= read:
            return Gap(key, epoch, word, places[:read])
    return Guard(tuple([(*row[:4], len(row[4])) for row in rows]))


def keys_asked(player):
    """The keys that were asked, ascending."""
    return sorted({ask["key"] for ask in player._play.tables["ask"].values()})


def stamp_ended(player, key):
    """The greatest stamp of the asks of a key that have ended, that of nothing without one."""
    ended = [ask for ask in player._play.tables["ask"].values() if ask["key"] == key and ask["ended"] is not None]
    stamps = [ask["kept"].stamp for ask in ended]
    return max([nothing().stamp, *stamps])


def guard_rows(player):
    """All rows of the guards, each with the places of the copies that it counts behind all."""
    found = []
    for key in keys_asked(player):
        for epoch in range(player.epoch + 1):
            word, stamp, places = guard_row(player, key, epoch)
            found.append((key, epoch, word, stamp, places))
    return found


def guard_row(player, key, epoch):
    """The word, the stamp and the tuple of the places of the copies that a row of the guards counts."""
    hosts = [player.host(place) for place in player.copies_of(key, epoch)]
    if epoch < player.epoch - 1:
        return "open", None, tuple([host.place for host in hosts if host.closed < epoch])
    stamp = stamp_ended(player, key)
    return "kept", stamp, tuple([host.place for host in hosts if host.kept(key).stamp < stamp])
