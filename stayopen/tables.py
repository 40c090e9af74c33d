"""Books as plain tables, for what has to go along all their walks.

A table tells, for each state, the states behind hosts of some classes, in the
order of these classes, and None for each class that is passed. A row is a pair
(state, copies).
"""

from stayopen.checks import LETTERS


def told_names(states):
    """All names that some states tell, ascending."""
    return sorted({key for state in states for key in state if key != ""})


def free_letter(names):
    """The first letter that is none of these names: a class that nobody tells."""
    return [letter for letter in LETTERS if letter not in names][0]


def behind_in(state, name):
    """The state behind a host of this class, None if it is passed."""
    return state.get(name, state.get(""))


def table_of(states, names):
    """The table of some states and of these classes."""
    return [[behind_in(state, name) for name in names] for state in states]


def row_behind(table, most, row, at):
    """The row behind a host of the class with this index, None if it is passed."""
    state, copies = row
    behind = table[state][at]
    if copies == most or behind is None:
        return None
    return (behind, copies + 1)


def rows_behind(table, most, row):
    """For each class the row behind a host of it, None if it is passed."""
    return [row_behind(table, most, row, at) for at in range(len(table[0]))]


def rows_from(table, most):
    """The rows that walks come to, in the order of their first mention."""
    found = [(0, 0)]
    known = {(0, 0): True}
    at = 0
    while at < len(found):
        row = found[at]
        behind = rows_behind(table, most, row)
        for ahead in behind:
            if ahead is not None and ahead not in known:
                known[ahead] = True
                found.append(ahead)
        at += 1
    return found


def is_parting(left, right, either):
    """Whether one takes a host that the other passes; with either also the other way."""
    if left is not None:
        return right is None
    return either and right is not None


def pair_behind(one, other, pair, at):
    """What two books do at a pair of rows with a host of the class with this index.

    one and other are pairs of a table and a most. Told are the rows behind it,
    None where it is passed, and the pair of the rows that come then.
    """
    left = row_behind(one[0], one[1], pair[0], at)
    right = row_behind(other[0], other[1], pair[1], at)
    ahead = (pair[0] if left is None else left, pair[1] if right is None else right)
    return (left, right, ahead)


def paired_rows(one, other, names, either):
    """All pairs of rows that one walk comes to, and the shortest walk that parts two books.

    one and other are pairs of a table of these names and a most. The walk is
    None if none parts them (is_parting); only then the pairs are complete. They
    are gone through by length and order of the names, so the first parting walk
    that is met is a shortest one, and the least of these.
    """
    start = ((0, 0), (0, 0))
    pairs = [start]
    words = {start: ()}
    at = 0
    while at < len(pairs):
        pair = pairs[at]
        for k in range(len(names)):
            left, right, ahead = pair_behind(one, other, pair, k)
            if is_parting(left, right, either):
                return (pairs, words[pair] + (names[k],))
            if ahead not in words:
                words[ahead] = words[pair] + (names[k],)
                pairs.append(ahead)
        at += 1
    return (pairs, None)
