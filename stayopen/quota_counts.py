"""How the copies of a walk count against quotas."""


def lot_holding(pairs, names, name):
    """The indexes of the pairs whose lots hold a class; names are all that the pairs name."""
    # A class that no pair names is of each lot that tells the empty string.
    word = name if name in names else ""
    return [at for at in range(len(pairs)) if word in pairs[at][1]]


def counts_behind(pairs, counts, lot):
    """The counts of the pairs behind one copy more of these lots, None if one of them is full."""
    if not all([counts[at] < pairs[at][0] for at in lot]):
        return None
    return tuple([counts[at] + 1 if at in lot else counts[at] for at in range(len(counts))])


def count_graph(pairs, names, classes, most):
    """The graph (as lessening.py wants it) of the counts that walks come to, and the room."""
    lots = [lot_holding(pairs, names, name) for name in classes]
    start = (tuple([0 for _ in pairs]), 0)
    found = [start]
    numbers = {start: 0}
    graph = []
    while len(graph) < len(found):
        counts, copies = found[len(graph)]
        row = []
        for lot in lots:
            behind = None if copies == most else counts_behind(pairs, counts, lot)
            ahead = (behind, copies + 1)
            if behind is not None and ahead not in numbers:
                numbers[ahead] = len(found)
                found.append(ahead)
            row.append(None if behind is None else numbers[ahead])
        graph.append(row)
    return (graph, max([copies for _, copies in found]))
