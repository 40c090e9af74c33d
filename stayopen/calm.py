"""Calm weather: letters come by rounds until none is on the way."""

from stayopen.checks import is_within
from stayopen.copied import copied
from stayopen.doing import do_step
from stayopen.errors import BadNumber, TooMany
from stayopen.player import need_player
from stayopen.same import is_same

MOST_ROUNDS = 1000


class Calm:
    """The steps of calm weather, and how many of them each round has."""

    def __init__(self, steps, rounds):
        self.steps = copied(steps)
        self.rounds = copied(rounds)

    def __eq__(self, other):
        return isinstance(other, Calm) and self.steps == other.steps and self.rounds == other.rounds


def calm(player, most=100):
    """The Calm of a play from now on; raises TooMany if letters are on the way behind most rounds."""
    need_player(player)
    if not is_within(most, 0, MOST_ROUNDS):
        raise BadNumber(most)
    return calm_of(player, most)


def shows_calm(player, value):
    """Whether any value is the Calm of a play from now on."""
    need_player(player)
    if not isinstance(value, Calm):
        return False
    # No play has letters on the way for as many rounds.
    told = calm_of(player, MOST_ROUNDS)
    return is_same(value.steps, told.steps) and is_same(value.rounds, told.rounds)


def calm_of(player, most):
    """The Calm of a play, which stays as it is."""
    play = player._play.twin()
    rounds = []
    while len(play.tables["letter"]) > 0:
        if len(rounds) == most:
            raise TooMany("rounds", most)
        numbers = sorted(list(play.tables["letter"]))
        for number in numbers:
            do_step(play, ("pass", number))
        rounds.append(len(numbers))
    return Calm(tuple([step for step, _ in play.past[player.clock:]]), tuple(rounds))
