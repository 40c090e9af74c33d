"""Where an ask can go on to by letters that come, and by what its client does alone.

A node is a triple (kind, epoch, round). It stands for the ask in this epoch and round: in its present
try (PRESENT), in the round 2 to which the answers of that try lead (OWN), or in a try that was begun
in an epoch that the client knows by then (NEWER).
"""

PRESENT = 0
OWN = 1
NEWER = 2


def fences_on_way(play):
    """A dict from hosts to the elder epochs of the fences that are on the way to them."""
    fences = {}
    for letter in play.tables["letter"].values():
        if letter.word == "fence":
            fences[letter.receiver] = [*fences.get(letter.receiver, []), letter.parts[0]]
    return fences


def letters_of_try(play, ask):
    """The letters on the way of the present try of an ask, those to hosts and their answers."""
    found = []
    for number in sorted(list(play.tables["letter"])):
        letter = play.tables["letter"][number]
        if letter.word in ("hear", "keep", "heard", "kept", "refused"):
            if letter.parts[0] == ask["number"] and letter.parts[1] == ask["attempt"]:
                found.append(letter)
    return found


def stands(play, place):
    """Whether a host has not fallen."""
    return place not in play.tables["fallen"]


def open_among(play, places, epoch):
    """Those of some hosts that stand and have closed less than an epoch."""
    return [place for place in places if stands(play, place) and play.tables["host"][place].closed < epoch]


def present_hosts(play, ask):
    """The hosts of the present try of an ask, ascending."""
    letters = letters_of_try(play, ask)
    found = [place for place, _ in ask["noted"]]
    found = found + [letter.sender for letter in letters if letter.word in ("heard", "kept")]
    asked = [letter.receiver for letter in letters if letter.word in ("hear", "keep")]
    return sorted(set(found + open_among(play, asked, ask["epoch"])))


def hosts_of(play, ask, node):
    """The tuple of the hosts of a node's row, ascending."""
    kind, epoch, _ = node
    if kind == PRESENT:
        return tuple(present_hosts(play, ask))
    return tuple(sorted(open_among(play, play.copies_at(ask["key"], epoch), epoch)))


def numbers_told(play, fences, places, epoch):
    """The epochs that hosts tell, or would tell behind a fence, to letters of a try of an epoch."""
    found = []
    for place in places:
        if stands(play, place):
            closed = play.tables["host"][place].closed
            bound = max(closed + 1, epoch)
            found = found + [elder + 1 for elder in fences.get(place, []) if elder >= bound]
            if closed >= epoch:
                found.append(closed + 1)
    return found


def epochs_next(play, fences, ask, known, node):
    """The epochs that the ask may go on to from a node; its client knows an epoch ahead of it."""
    kind, epoch, _ = node
    if kind == PRESENT:
        letters = letters_of_try(play, ask)
        asked = [letter.receiver for letter in letters if letter.word in ("hear", "keep")]
        told = [letter.parts[2] for letter in letters if letter.word == "refused"]
        told = told + numbers_told(play, fences, asked, epoch)
    else:
        told = numbers_told(play, fences, play.copies_at(ask["key"], epoch), epoch)
    least = epoch if kind == NEWER else known
    return sorted(set([least, play.newest(), *[max(least, number) for number in told]]))


def nodes_next(play, fences, ask, known, node):
    """The nodes that the ask may come to from a node."""
    kind, epoch, stage = node
    behind = 2 if stage == 2 and "stamp" not in play.store.cares else 1
    found = [(NEWER, other, behind) for other in epochs_next(play, fences, ask, known, node)]
    if stage == 1 and len(hosts_of(play, ask, node)) >= play.store.lots.read:
        found.append((OWN if kind == PRESENT else NEWER, epoch, 2))
    return found


def ways_on(play, ask, known):
    """A dict from all nodes that the ask may come to, to the node ahead of each, None of the first one."""
    fences = fences_on_way(play)
    first = (PRESENT, ask["epoch"], ask["stage"])
    ways = {first: None}
    nodes = [first]
    while len(nodes) > 0:
        further = []
        # The names nodes and further stand for one list at times: a copy is walked.
        for node in list(nodes):
            for other in nodes_next(play, fences, ask, known, node):
                if other not in ways:
                    ways[other] = node
                    further.append(other)
        nodes = further
    return ways


def is_enough(play, ask, node):
    """Whether the hosts of a node are enough to end the ask there."""
    many = len(hosts_of(play, ask, node))
    if node[2] == 2:
        return many >= play.store.lots.keep
    return "back" in play.store.cares and ask["word"] == "get" and many >= play.store.lots.read


def rows_on(play, ask, ways):
    """The rows of an ask: that of its present try, and behind it all others, ascending."""
    rows = [(node[1], node[2], hosts_of(play, ask, node)) for node in ways]
    return (rows[0], *sorted(set(rows[1:])))
