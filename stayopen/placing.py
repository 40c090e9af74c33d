"""Where a newcomer should stand."""

from stayopen.checks import is_name
from stayopen.copied import copied
from stayopen.errors import BadName, TooMany
from stayopen.gaps import gaps_of, least_height
from stayopen.needs import need_book, need_ring

MOST_PLACED = 30


class Best:
    """The best place for a newcomer, the height there, and a floor for each gap."""

    def __init__(self, place, height, floors):
        self.place = copied(place)
        self.height = copied(height)
        self.floors = copied(floors)

    def __eq__(self, other):
        if not isinstance(other, Best):
            return False
        return self.place == other.place and self.height == other.height and self.floors == other.floors


def best_place(book, ring, name):
    """The least free place at which a newcomer makes the height of the ring least: a Best."""
    gaps = gaps_to_fill(book, ring, name)
    height, place = min([least_height(gap) for gap in gaps])
    return Best(place, height, tuple([(gap[0], gap[1], floor_of(gap, height)) for gap in gaps]))


def gaps_to_fill(book, ring, name):
    """The gaps of a ring for a newcomer; raises the errors of best_place."""
    need_book(book, "book")
    need_ring(ring, "ring")
    if not is_name(name):
        raise BadName(name)
    if len(ring) > MOST_PLACED:
        raise TooMany("hosts", MOST_PLACED)
    return gaps_of(book, ring, name)


def floor_of(gap, height):
    """The one or two hosts that show that no place of a gap makes the height less than this."""
    _, _, ahead, behind = gap
    for host in ahead:
        if min(ahead[host], behind[host]) >= height:
            return (host,)
    # No host alone is a floor: then the greatest growing load and the greatest falling one are.
    growing = {host: ahead[host] for host in ahead if ahead[host] < behind[host]}
    falling = {host: ahead[host] for host in ahead if ahead[host] > behind[host]}
    pair = (highest(growing), highest(falling))
    return tuple([host for host in ahead if host in pair])


def highest(told):
    """The first host with the greatest load."""
    most = max(list(told.values()))
    return [host for host in told if told[host] == most][0]
