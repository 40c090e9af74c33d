"""Whether lots make every run of begins of one change one register per key, for nested quotas."""

from stayopen.copied import copied
from stayopen.lots import need_lots
from stayopen.nested import need_quotas, room
from stayopen.verdicts import Verdict


class Right(Verdict):
    """Every run is one register per key; idle tells whether no ask ever ends."""

    def __init__(self, idle):
        self.idle = copied(idle)

    def __bool__(self):
        return True

    def __eq__(self, other):
        return isinstance(other, Right) and self.idle == other.idle


class Wrong(Verdict):
    """Some run is no register; word tells what the lots lack."""

    def __init__(self, word):
        self.word = copied(word)

    def __bool__(self):
        return False

    def __eq__(self, other):
        return isinstance(other, Wrong) and self.word == other.word


def four(quotas, lots):
    """Whether every run of begins of one change is one register per key: a Right or a Wrong."""
    need_quotas(quotas)
    need_lots(lots)
    most = room(quotas)
    if max(lots.read, lots.keep) > most:
        return Right(True)
    if lots.read + lots.keep < most + 2:
        return Wrong("keep")
    if lots.spare >= min(lots.keep, lots.read):
        return Wrong("spare")
    if lots.read + lots.sweep < most + 2:
        return Wrong("sweep")
    if lots.spare >= lots.sweep:
        return Wrong("carry")
    return Right(False)
