"""Stretches of keys (or places), from a first to a last one."""

from stayopen.checks import MOST_PLACE


def stretches_to(places):
    """The stretches of keys that end at some ascending places, and the one behind them all."""
    found = []
    first = 0
    for place in places:
        found.append((first, place))
        first = place + 1
    if first <= MOST_PLACE:
        found.append((first, MOST_PLACE))
    return found


def joined(rows):
    """Rows (first, last, told), ascending; those that touch and are told alike put together."""
    found = []
    for first, last, told in rows:
        if len(found) > 0 and found[-1][1] + 1 == first and found[-1][2] == told:
            found[-1] = (found[-1][0], last, told)
        else:
            found.append((first, last, told))
    return found
