"""Whether an ask can still end by letters that come, and by what its client does alone."""

from stayopen.asking import client_of, present_ask
from stayopen.copied import copied
from stayopen.doing import do_step
from stayopen.ending import steps_along
from stayopen.errors import Clashing, OpenError
from stayopen.going_on import is_enough, rows_on, ways_on
from stayopen.player import need_client, need_player
from stayopen.same import is_same
from stayopen.step_checks import check_step
from stayopen.steps import is_step
from stayopen.verdicts import Verdict


class Ends(Verdict):
    """Steps that end an ask."""

    def __init__(self, steps):
        self.steps = copied(steps)

    def __bool__(self):
        return True

    def __eq__(self, other):
        return isinstance(other, Ends) and self.steps == other.steps


class Stuck(Verdict):
    """The rows of an ask that does not end, none of which has enough hosts."""

    def __init__(self, rows):
        self.rows = copied(rows)

    def __bool__(self):
        return False

    def __eq__(self, other):
        return isinstance(other, Stuck) and self.rows == other.rows


def ends(player, client):
    """An Ends of steps that end the ask of a client, or a Stuck if there are none."""
    ask = ask_of(player, client)
    play = player._play
    ways = ways_on(play, ask, client_of(play, client)["known"])
    for node in ways:
        if is_enough(play, ask, node):
            return Ends(steps_along(play, client, path_to(ways, node)))
    return Stuck(rows_on(play, ask, ways))


def shows_ends(player, client, value):
    """Whether any value is an Ends of steps that end the ask, or the Stuck of it."""
    ask = ask_of(player, client)
    play = player._play
    if isinstance(value, Ends):
        return are_ending(play.twin(), ask, value.steps)
    if not isinstance(value, Stuck):
        return False
    ways = ways_on(play, ask, client_of(play, client)["known"])
    if any([is_enough(play, ask, node) for node in ways]):
        return False
    return is_same(value.rows, rows_on(play, ask, ways))


def ask_of(player, client):
    """The ask of a client; raises the error of the first argument that is wrong, or of one that is idle."""
    need_player(player)
    need_client(player, client)
    ask = present_ask(player._play, client)
    if ask is None:
        raise Clashing("idle")
    return ask


def path_to(ways, node):
    """The nodes from the first one to this one."""
    path = [node]
    while ways[path[-1]] is not None:
        path.append(ways[path[-1]])
    return path[::-1]


def are_ending(play, ask, value):
    """Whether any value is a tuple of steps the last of which, and no other one, ends an ask of a play.

    The play is one that may be changed.
    """
    if not isinstance(value, tuple):
        return False
    for at in range(len(value)):
        if not is_ending_step(ask["client"], value[at]) or not is_done(play, value[at]):
            return False
        if play.tables["ask"][ask["number"]]["ended"] is not None:
            return at == len(value) - 1
    return False


def is_ending_step(client, value):
    """Whether any value is a step pass, or a step tell or again of this client."""
    if not is_step(value):
        return False
    return value[0] == "pass" or value[0] in ("tell", "again") and value[1] == client


def is_done(play, step):
    """Whether a step can be done; if so it is done, also where a player has done too many."""
    try:
        check_step(play, step)
    except OpenError:
        return False
    do_step(play, step)
    return True
