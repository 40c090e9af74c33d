"""The least book of a machine whose walks have an end.

A graph tells, for each row of the machine, the indexes of the rows behind
hosts of some classes, None for each class that is passed. The row 0 is that of
the beginning, all rows are behind it, and each row stands ahead of the rows
behind it.
"""

from stayopen.books import MOST_STATES, Book
from stayopen.errors import TooMany
from stayopen.tables import behind_in, free_letter, told_names


def least_of(graph, names, free, room):
    """The least book of a graph of these classes, and its states for the rows, in a tuple.

    free is the class that stands for all that the machine does not name.
    """
    lots, deeds = alike_lots(graph)
    if len(deeds) > MOST_STATES:
        raise TooMany("states", MOST_STATES)
    told = [told_state(names, free, deed) for deed in deeds]
    order = lots_by_mention(told, lots[0])
    numbers = {order[at]: at for at in range(len(order))}
    states = [{key: numbers.get(told[lot][key]) for key in told[lot]} for lot in order]
    # The states tell the stop; most must only not stop a walk ahead of them.
    most = max(room, 1)
    return (Book(*states, most=most), tuple([numbers[lot] for lot in lots]))


def alike_lots(graph):
    """The lot of alike rows for each row; for each lot the lots behind, class by class."""
    lots = [0 for _ in graph]
    numbers = {}
    # What is behind a row has its lot already when the row's turn comes.
    for at in range(len(graph) - 1, -1, -1):
        deed = tuple([None if row is None else lots[row] for row in graph[at]])
        if deed not in numbers:
            numbers[deed] = len(numbers)
        lots[at] = numbers[deed]
    return (lots, list(numbers))


def told_state(names, free, deed):
    """What the least book's state of a lot tells: the lots behind, None for what is passed."""
    other = deed[names.index(free)]
    told = {names[at]: deed[at] for at in range(len(names)) if deed[at] != other}
    if other is not None:
        told[""] = other
    return told


def lots_by_mention(told, first):
    """The lots in the order of their first mention, by the least book's own classes."""
    told_by_name = told_names(told)
    names = sorted([*told_by_name, free_letter(told_by_name)])
    order = [first]
    known = {first: True}
    at = 0
    while at < len(order):
        state = told[order[at]]
        behind = [behind_in(state, name) for name in names]
        for lot in behind:
            if lot is not None and lot not in known:
                known[lot] = True
                order.append(lot)
        at += 1
    return order
