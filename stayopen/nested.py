"""Nested quotas: what their books do, without their books."""

from stayopen.checks import is_name
from stayopen.copied import copied
from stayopen.errors import BadName, BadQuota, Clashing
from stayopen.needs import need_key, need_ring
from stayopen.quotas import Quotas
from stayopen.tables import free_letter
from stayopen.walks import hosts_from


class Exchange:
    """The copy of a key that one change takes away, the one that it brings, and the others."""

    def __init__(self, gone, new, kept):
        self.gone = copied(gone)
        self.new = copied(new)
        self.kept = copied(kept)

    def __eq__(self, other):
        if not isinstance(other, Exchange):
            return False
        return self.gone == other.gone and self.new == other.new and self.kept == other.kept


def is_nested(quotas):
    """Whether of any two lots one lies within the other, or they have no class in common."""
    need_quotas(quotas)
    lots = [words for _, words in quotas.pairs]
    # The empty string stands for all classes that no pair names: they are in the same lots.
    return all([are_nested(one, other) for one in lots for other in lots])


def room(quotas):
    """The greatest number of copies that any ring has."""
    need_quotas(quotas)
    need_nested(quotas)
    return len(classes_of_most(quotas))


def most_taken(quotas, *names):
    """The greatest number of hosts, among hosts of these classes, that keep all quotas."""
    need_quotas(quotas)
    for name in names:
        if not is_name(name):
            raise BadName(name)
    need_nested(quotas)
    return sum(quotas.takes(*names))


def exchange(quotas, ring, change, key):
    """What one change of a ring does to the copies of a key: an Exchange."""
    need_quotas(quotas)
    need_ring(ring, "ring")
    changed = ring.changed(change)
    need_key(key)
    need_nested(quotas)
    ahead = copies_by(quotas, ring, key)
    behind = copies_by(quotas, changed, key)
    gone = [place for place in ahead if place not in behind]
    new = [place for place in behind if place not in ahead]
    kept = sorted([place for place in ahead if place in behind])
    return Exchange(first_of(gone), first_of(new), tuple(kept))


def classes_of_most(quotas):
    """The classes of as many copies as any ring has, by nested quotas."""
    # Nested quotas take the same number in each order; more than most of a class never count.
    names = [*quotas.names, free_letter(quotas.names)] * quotas.most
    taken = quotas.takes(*names)
    return [names[at] for at in range(len(names)) if taken[at]]


def need_quotas(value):
    """Raises BadQuota for any value that is no Quotas."""
    if not isinstance(value, Quotas):
        raise BadQuota("quotas")


def need_nested(quotas):
    """Raises Clashing unless the quotas are nested."""
    if not is_nested(quotas):
        raise Clashing("nested")


def are_nested(one, other):
    """Whether one of two lots lies within the other, or they have no word in common."""
    common = [word for word in one if word in other]
    return len(common) in (0, len(one), len(other))


def copies_by(quotas, ring, key):
    """The places of the copies of a key by quotas, in the order of the walk."""
    hosts = hosts_from(list(ring), key)
    names = [name for _, name in hosts]
    taken = quotas.takes(*names)
    return [hosts[at][0] for at in range(len(hosts)) if taken[at]]


def first_of(places):
    """The first of some places, None if there is none."""
    return None if len(places) == 0 else places[0]
