"""Two walks of one key, gone along at once: the first ahead of some changes, the second behind.

What both have met is told as (state, other, x, y, z): the states of both walks, and how many
hosts were taken by the first alone, by the second alone, and by both.
"""

BEGINNING = (0, 0, 0, 0, 0)


def first_behinds(table, most, told):
    """For each class the state behind a host that the first walk takes, None if it takes none."""
    state, _, x, _, z = told
    return list(table[state]) if x + z < most else [None for _ in table[state]]


def second_behinds(table, most, told):
    """For each class the state behind a host that the second walk takes, None if it takes none."""
    _, other, _, y, z = told
    return list(table[other]) if y + z < most else [None for _ in table[other]]


def behind_host(told, left, right):
    """What is so behind a host that leads the walks to these states, None where it is not taken."""
    state, other, x, y, z = told
    if left is not None and right is not None:
        return (left, right, x, y, z + 1)
    if left is not None:
        return (left, other, x + 1, y, z)
    if right is not None:
        return (state, right, x, y + 1, z)
    return told
