"""What hosts keep for a key, and which of it is greater."""

from stayopen.copied import copied


class Kept:
    """A stamp, with the number of the put that has it and its value."""

    def __init__(self, stamp, put, value):
        self.stamp = copied(stamp)
        self.put = copied(put)
        self.value = copied(value)

    def __eq__(self, other):
        if not isinstance(other, Kept):
            return False
        return self.stamp == other.stamp and self.put == other.put and self.value == other.value


def nothing():
    """What a host keeps where nothing came."""
    return Kept((0, ""), None, None)


def is_greater(one, other, names=True):
    """Whether the stamp of one is greater than that of other; without names by the numbers alone."""
    if names:
        return one.stamp > other.stamp
    return one.stamp[0] > other.stamp[0]


def greatest(kepts, names=True):
    """The first of some Kepts than which none of them is greater."""
    found = kepts[0]
    for kept in kepts:
        if is_greater(kept, found, names):
            found = kept
    return found
