"""A looker for the papers on placing."""

from stayopen.checks import is_integer
from stayopen.gaps import least_height
from stayopen.placing import Best, gaps_to_fill


def shows_best(book, ring, name, value):
    """Whether any value is a Best of the best place and its height, with right floors."""
    gaps = gaps_to_fill(book, ring, name)
    if not isinstance(value, Best):
        return False
    height, place = min([least_height(gap) for gap in gaps])
    if not is_just(value.place, place) or not is_just(value.height, height):
        return False
    floors = value.floors
    if not isinstance(floors, tuple) or len(floors) != len(gaps):
        return False
    return all([is_floor(gaps[at], height, floors[at]) for at in range(len(gaps))])


def is_just(value, number):
    """Whether any value is just this integer."""
    return is_integer(value) and value == number


def is_floor(gap, height, value):
    """Whether any value is a triple that shows that no place of a gap has less than a height."""
    first, last, ahead, behind = gap
    if not isinstance(value, tuple) or len(value) != 3:
        return False
    if not is_just(value[0], first) or not is_just(value[1], last):
        return False
    hosts = value[2]
    if not are_floor_hosts(ahead, hosts):
        return False
    least = height if len(hosts) == 1 else 2 * height - 1
    return sum([ahead[host] for host in hosts]) >= least and sum([behind[host] for host in hosts]) >= least


def are_floor_hosts(told, value):
    """Whether any value is a tuple of one or two of the told hosts, ascending, None the last."""
    if not isinstance(value, tuple) or not 1 <= len(value) <= 2:
        return False
    if not all([host is None or is_integer(host) and host in told for host in value]):
        return False
    if len(value) == 1:
        return True
    return value[0] is not None and (value[1] is None or value[0] < value[1])
