"""Rings: hosts at unlike places, each of a class."""

from stayopen.checks import MOST_PLACE, is_integer, is_place
from stayopen.errors import BadChange, BadNumber, BadRing, Clashing, NoHost, TooMany
from stayopen.ring_changes import changes_between, classes_behind, is_host

MOST_HOSTS = 100


class Ring:
    """A ring of some hosts, pairs of a place and a class."""

    def __init__(self, *hosts):
        check_hosts(hosts)
        self._hosts = tuple(sorted(list(hosts)))
        self._classes = {place: name for place, name in self._hosts}

    @staticmethod
    def of(hosts):
        """The ring of the hosts in a list or tuple."""
        if not isinstance(hosts, (list, tuple)):
            raise BadRing("hosts")
        return Ring(*hosts)

    def __contains__(self, place):
        return is_place(place) and place in self._classes

    def __getitem__(self, place):
        if not is_place(place) or place not in self._classes:
            raise NoHost(place)
        return self._classes[place]

    def __iter__(self):
        return iter(self._hosts)

    def __len__(self):
        return len(self._hosts)

    def __bool__(self):
        return True

    def __eq__(self, other):
        if not isinstance(other, Ring):
            return False
        return list(self) == list(other)

    def __add__(self, host):
        if not is_host(host):
            raise BadRing("host")
        hosts = [*self._hosts, host]
        return Ring(*hosts)

    def __sub__(self, place):
        if not is_place(place) or place not in self._classes:
            raise NoHost(place)
        hosts = [host for host in self._hosts if host[0] != place]
        return Ring(*hosts)

    def __rshift__(self, n):
        if not is_integer(n):
            raise BadNumber(n)
        hosts = [((place + n) % (MOST_PLACE + 1), name) for place, name in self._hosts]
        return Ring(*hosts)

    def changed(self, *changes):
        """The ring behind some changes, all of them told of this one."""
        return self.changed_by(changes)

    def changed_by(self, changes):
        """The ring behind the changes in a list or tuple, all of them told of this one."""
        if not isinstance(changes, (list, tuple)):
            raise BadChange(changes)
        behind = classes_behind(self._classes, changes)
        hosts = [(place, behind[place]) for place in behind]
        return Ring(*hosts)

    def changes_to(self, other):
        """The tuple of the fewest changes that make another ring of this one."""
        if not isinstance(other, Ring):
            raise BadRing("other")
        return changes_between(self._classes, {place: name for place, name in other})


def check_hosts(hosts):
    """Raises the error of the first part of a ring that is wrong."""
    for at in range(len(hosts)):
        if not is_host(hosts[at]):
            raise BadRing(at)
    if len(hosts) > MOST_HOSTS:
        raise TooMany("hosts", MOST_HOSTS)
    if len(set([place for place, _ in hosts])) < len(hosts):
        raise Clashing("place")
