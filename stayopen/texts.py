"""Lines and pages: the texts of rings, lots, steps, histories and plays."""


def ring_line(ring):
    """The line of a ring."""
    return " ".join(["ring", *[f"{place} {name}" for place, name in ring]])


def lots_line(lots):
    """The line of lots."""
    return f"lots {lots}"


def step_line(step):
    """The line of a step."""
    if step[0] == "begin":
        return " ".join(["begin", *[str(part) for change in step[1:] for part in change]])
    return " ".join([str(part) for part in step])


def ask_line(ask):
    """The line of an Ask."""
    words = [ask.word, ask.client, str(ask.begun), number_or_dash(ask.ended)]
    if ask.word == "get" and ask.ended is not None:
        words.append(number_or_dash(ask.told))
    return " ".join(words)


def history_page(asks):
    """The page of a history."""
    return "\n".join(["history", *[ask_line(ask) for ask in asks]])


def play_page(player):
    """The page of a play."""
    store = player.store
    lines = ["play", str(store.book), ring_line(store.ring), lots_line(store.lots)]
    lines.append(" ".join(["cares", *store.cares]))
    lines.append(f"changes {store.changes}")
    return "\n".join([*lines, *[step_line(step) for step in player.deeds]])


def number_or_dash(number):
    """The word of a number, a dash for None."""
    return "-" if number is None else str(number)
