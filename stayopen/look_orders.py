"""A looker for orders of asks: it goes along the indexes, and searches nothing."""

from stayopen.checks import is_integer, is_within
from stayopen.histories import need_asks, parts_of, zones
from stayopen.orders import Order, Quarrel
from stayopen.same import is_same


def shows_order(asks, value):
    """Whether any value is an Order of these asks, or a Quarrel of them."""
    need_asks(asks)
    if isinstance(value, Order):
        return are_parts(asks, value.indexes) and are_in_order(asks, value.indexes)
    if not isinstance(value, Quarrel):
        return False
    if is_same(value.word, "future"):
        return is_future(asks, value.one, value.other)
    return is_same(value.word, "lots") and are_lots_at_odds(asks, value.one, value.other)


def are_parts(asks, value):
    """Whether any value is a tuple of just the asks that play a part, each once."""
    if not isinstance(value, tuple) or not all([is_integer(at) for at in value]):
        return False
    return sorted(list(value)) == parts_of(asks)


def are_in_order(asks, indexes):
    """Whether some indexes, each of one ask, fit the answers and the time."""
    return are_answers_right(asks, indexes) and is_along_time(asks, indexes)


def are_answers_right(asks, indexes):
    """Whether each get tells the last put ahead of it, nothing if there is none."""
    last = None
    for at in indexes:
        if asks[at].word == "put":
            last = at
        elif asks[at].told != last:
            return False
    return True


def is_along_time(asks, indexes):
    """Whether no ask stands behind another one that it is ahead of."""
    latest = None
    for at in indexes:
        ask = asks[at]
        if latest is not None and ask.is_ahead(asks[latest]):
            return False
        if latest is None or ask.begun > asks[latest].begun:
            latest = at
    return True


def is_future(asks, one, other):
    """Whether a get told by any value has ended ahead of the put that it tells, any value too."""
    if not is_within(one, 0, len(asks) - 1) or not is_integer(other) or asks[one].told != other:
        return False
    return asks[one].is_ahead(asks[other])


def are_lots_at_odds(asks, one, other):
    """Whether any values are two unlike lots that are there, each to stand ahead of the other."""
    ours = [row for row in zones(asks) if is_same(one, row[0])]
    theirs = [row for row in zones(asks) if is_same(other, row[0])]
    if len(ours) == 0 or len(theirs) == 0 or ours == theirs:
        return False
    return ours[0][1] < theirs[0][2] and theirs[0][1] < ours[0][2]
