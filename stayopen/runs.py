"""Runs: the steps of a play of a store, and a key whose answers are looked at behind them."""

from stayopen.checks import is_place
from stayopen.copied import copied
from stayopen.orders import order_of
from stayopen.player import Player
from stayopen.store import Store


class Run:
    """A store, the steps of a play of it, and a key."""

    def __init__(self, store, steps, key):
        self.store = copied(store)
        self.steps = copied(steps)
        self.key = copied(key)

    def __eq__(self, other):
        if not isinstance(other, Run):
            return False
        return self.store == other.store and self.steps == other.steps and self.key == other.key

    def played(self):
        """A new player of the store behind the steps."""
        player = Player(self.store)
        player.run(*self.steps)
        return player

    def end(self):
        """What order_of tells of the history of the key behind the steps."""
        return order_of(self.played().history(self.key))


def shows_run(value):
    """Whether any value is a Run whose steps can be done, and behind which the answers fit no order."""
    if not isinstance(value, Run) or not isinstance(value.store, Store):
        return False
    if not isinstance(value.steps, tuple) or not is_place(value.key):
        return False
    player = Player(value.store)
    for step in value.steps:
        if not player.attempt(step):
            return False
    return not order_of(player.history(value.key))
