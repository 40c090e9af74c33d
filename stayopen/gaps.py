"""What a newcomer in the gaps of a ring does to the loads of the hosts.

A gap is told as (first, last, ahead, behind): a stretch of places without a
host, and the loads of all hosts with the newcomer at first, and with it at
last. Loads are dicts from places, the newcomer is None, behind all others.
"""

from stayopen.arcs import loads
from stayopen.checks import MOST_PLACE


def free_stretches(ring):
    """The stretches of places without a host, ascending."""
    found = []
    first = 0
    for place, _ in ring:
        if first < place:
            found.append((first, place - 1))
        first = place + 1
    if first <= MOST_PLACE:
        found.append((first, MOST_PLACE))
    return found


def loads_with(book, ring, place, name):
    """The loads of all hosts with a newcomer of this class at a place."""
    told = loads(book, ring + (place, name))
    found = {host: told[host] for host in told if host != place}
    found[None] = told[place]
    return found


def gaps_of(book, ring, name):
    """All gaps of a ring, ascending, for a newcomer of this class."""
    found = []
    for first, last in free_stretches(ring):
        ahead = loads_with(book, ring, first, name)
        behind = loads_with(book, ring, last, name)
        found.append((first, last, ahead, behind))
    return found


def least_height(gap):
    """The least height of the ring with the newcomer in a gap, and the least place for it."""
    first, _, ahead, behind = gap
    # Over a gap each load grows by 1 with each place, or falls by 1, or stays.
    growing = [ahead[host] for host in ahead if ahead[host] < behind[host]]
    falling = [ahead[host] for host in ahead if ahead[host] > behind[host]]
    height = max([min(ahead[host], behind[host]) for host in ahead])
    if len(growing) > 0 and len(falling) > 0:
        height = max(height, (max(growing) + max(falling) + 1) // 2)
    # So many places from first on a falling load is still above the height.
    above = [load - height for load in falling]
    return (height, first + max([0, *above]))
