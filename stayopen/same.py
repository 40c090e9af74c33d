"""Whether any value is just what is told, kinds included."""

from stayopen.checks import is_integer


def is_same(value, told):
    """Whether any value is just what is told: integers, strings, None, and tuples of these."""
    if isinstance(told, tuple):
        if not isinstance(value, tuple) or len(value) != len(told):
            return False
        return all([is_same(value[at], told[at]) for at in range(len(told))])
    if told is None:
        return value is None
    if isinstance(told, str):
        return isinstance(value, str) and value == told
    return is_integer(value) and value == told


def is_lot_of(places, many, value):
    """Whether any value is a tuple of just so many of the unlike places, in their order."""
    if not isinstance(value, tuple) or len(value) != many:
        return False
    if not all([is_integer(place) for place in value]):
        return False
    return value == tuple([place for place in places if place in value])
