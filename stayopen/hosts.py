"""Hosts: what they keep, what they have closed, and how they answer letters."""

from stayopen.checks import is_place
from stayopen.errors import BadNumber
from stayopen.stamps import is_greater, nothing


class Host:
    """A host that keeps something for some keys; it never changes, letters make other Hosts."""

    def __init__(self, place):
        if not is_place(place):
            raise BadNumber(place)
        self.place = place
        self.closed = -1
        # From the keys, ascending, to what is kept for them, which is never nothing.
        self._kepts = {}

    def kept(self, key):
        """What the host keeps for a key."""
        if not is_place(key):
            raise BadNumber(key)
        return self._kepts[key] if key in self._kepts else nothing()

    def answered(self, word, parts, cares=()):
        """The Host behind a letter that comes to it, and its answer, a pair of a word and parts."""
        if word == "fence":
            epoch = parts[0]
            told = tuple([(key, self._kepts[key]) for key in self._kepts])
            return (host_with(self, max(self.closed, epoch), self._kepts), ("fenced", (epoch, told)))
        if word == "sweep":
            epoch, key, kept = parts
            return (keeping(self, key, kept, cares), ("swept", (epoch, key)))
        ask, attempt, epoch, key = parts[:4]
        if self.closed >= epoch:
            return (self, ("refused", (ask, attempt, self.closed + 1)))
        if word == "hear":
            return (self, ("heard", (ask, attempt, self.kept(key))))
        return (keeping(self, key, parts[4], cares), ("kept", (ask, attempt)))

    def __contains__(self, key):
        return is_place(key) and key in self._kepts

    def __iter__(self):
        return iter(self._kepts)

    def __len__(self):
        return len(self._kepts)

    def __bool__(self):
        return True

    def __eq__(self, other):
        if not isinstance(other, Host):
            return False
        return self.place == other.place and self.closed == other.closed and self._kepts == other._kepts


def host_with(host, closed, kepts):
    """The Host at the same place with this closed number, and with what it keeps by its keys."""
    made = Host(host.place)
    made.closed = closed
    made._kepts = {key: kepts[key] for key in sorted(list(kepts))}
    return made


def keeping(host, key, kept, cares):
    """The Host behind a keep or a sweep that it does not refuse."""
    if "older" not in cares and not is_greater(kept, host.kept(key), "names" not in cares):
        return host
    kepts = {other: host.kept(other) for other in host if other != key}
    # Only with the care older left out nothing takes the place of what was kept.
    if kept != nothing():
        kepts[key] = kept
    return host_with(host, host.closed, kepts)
