"""Calm weather: stayopen/calm.py, held against passing round by round on a slow store."""

import random
import unittest

from stayopen.books import Book
from stayopen.calm import Calm, calm, shows_calm
from stayopen.errors import BadNumber, BadPlayer, TooMany
from stayopen.lots import Lots
from stayopen.player import Player
from stayopen.rings import Ring
from stayopen.store import Store
from tests.helpers import STRANGE, Case
from tests.scenes import plain_player
from tests.slow_store import KEYS, SlowStore, drawn_step, drawn_store, seen_of_player


def drawn_play(seed, steps, words=None, **more):
    """A play of drawn steps, some of these words alone, beside a slow store."""
    made = random.Random(seed)
    store = drawn_store(made, **more)
    player, slow = Player(store), SlowStore(store)
    for _ in range(steps):
        step = drawn_step(made, slow)
        if (words is None or step[0] in words) and slow.error_of(step) is None:
            player.step(step)
            slow.do(step)
    return player, slow


def calm_model(slow):
    """The steps and the rounds of calm weather, which the slow store goes through."""
    steps, rounds = [], []
    while any(letter[0] for letter in slow.letters):
        numbers = [number for number, letter in enumerate(slow.letters) if letter[0]]
        for number in numbers:
            slow.do(("pass", number))
            steps.append(("pass", number))
        rounds.append(len(numbers))
    return tuple(steps), tuple(rounds)


def least_epoch(player):
    """The least epoch of an ask that goes on, the newest one if there is none."""
    asks = [player.asking(name) for name in player.clients]
    return min([ask.epoch for ask in asks if ask is not None], default=player.epoch)


class Plays(Case):
    def test_drawn_plays(self):
        most = 0
        for seed in range(260):
            player, slow = drawn_play(50000 + seed, 20 + seed % 110, cares=() if seed % 2 else None)
            seen, bound = seen_of_player(player), 4 + 2 * (player.epoch - least_epoch(player))
            if "stamp" in player.store.cares:
                bound = 4 * (player.epoch - least_epoch(player) + 1)
            told = calm(player)
            steps, rounds = calm_model(slow)
            self.assertSame(vars(told), {"steps": steps, "rounds": rounds})
            self.assertLessEqual(len(rounds), bound)
            self.assertIs(shows_calm(player, told), True)
            self.assertSame(seen_of_player(player), seen)
            self.assertTrue(calm(player, len(rounds)) == told)
            if rounds:
                self.assertRaisesJust(TooMany("rounds", len(rounds) - 1), calm, player, len(rounds) - 1)
            most = max(most, len(rounds))
        self.assertGreater(most, 4)

    def test_all_is_well_behind_calm_weather(self):
        """The second fact: nothing lost or fallen, nothing left out, and copies enough."""
        words, checked = ("put", "get", "tell", "again", "pass", "twin", "begin", "settle", "drop"), 0
        for seed in range(200):
            lots = Lots(*random.Random(seed).choice(((1, 2), (2, 1), (2, 2), (1, 1))))
            player, _ = drawn_play(60000 + seed, 90, words, cares=(), lots=lots)
            keys = [key for key in KEYS if player.history(key)]
            need = max(lots.read, lots.keep, lots.sweep)
            if any(len(player.copies_of(key, epoch)) < need for key in keys for epoch in range(player.epoch + 1)):
                continue
            dropped = sum(step[0] == "drop" for step in player.deeds)
            player.run(*calm(player).steps)
            self.assertTrue(player.is_settled)
            self.assertTrue(all(player.asking(name) is None for name in player.clients))
            asks = [ask for key in keys for ask in player.history(key)]
            self.assertEqual(sum(ask.ended is None for ask in asks), dropped)
            checked += 1
        self.assertGreater(checked, 60)

    def test_as_many_rounds_as_the_fact_tells(self):
        """Each epoch ahead of the newest one refuses an ask of the epoch 0 once."""
        for epochs in (0, 1, 2, 7, 48, 59):
            player = refused_player(epochs)
            told = calm(player, 1000)
            self.assertSame(len(told.rounds), 4 + 2 * epochs)
            self.assertTrue(calm(player, 4 + 2 * epochs) == told)
            self.assertRaisesJust(TooMany("rounds", 3 + 2 * epochs), calm, player, 3 + 2 * epochs)
            self.assertIs(shows_calm(player, told), True)
        # A hundred rounds are let where none are told.
        self.assertSame(len(calm(refused_player(48)).rounds), 100)
        self.assertRaisesJust(TooMany("rounds", 100), calm, refused_player(49))

    def test_no_letter_on_the_way(self):
        player = plain_player()
        self.assertSame(vars(calm(player, 0)), {"steps": (), "rounds": ()})
        player.step(("get", "p", 0))
        self.assertRaisesJust(TooMany("rounds", 0), calm, player, most=0)
        player.run(("lose", 0), ("lose", 1), ("lose", 2))
        self.assertSame(vars(calm(player, 0)), {"steps": (), "rounds": ()})

    def test_a_play_of_two_thousand_steps(self):
        player = plain_player()
        player.step(("put", "p", 0, 1))
        while player.clock < 2000:
            player.step(("tell", "p"))
        self.assertSame(calm(player).rounds, (3, 3, 3, 3))
        self.assertTrue(shows_calm(player, calm(player)))
        self.assertSame(player.clock, 2000)


def refused_player(epochs):
    """A play in which the only copy of each epoch but the newest goes, and closes just this epoch."""
    ring = Ring(*[(at, "a") for at in range(60)])
    player = Player(Store(ring, Book({"": 0}, most=1), Lots(1, 1), ("early",)))
    for number in range(epochs):
        player.step(("begin", ("go", number)))
    player.step(("get", "p", 0))
    return player


class Looker(Case):
    def test_papers_with_parts_otherwise(self):
        player = plain_player(hosts=4)
        player.run(("put", "p", 0, 5), ("fall", 10))
        told = calm(player)
        steps, rounds = told.steps, told.rounds
        self.assertSame(rounds, (3, 2, 3, 2))
        self.assertIs(shows_calm(player, Calm(steps, rounds)), True)
        for at, step in enumerate(steps):
            for value in (*STRANGE, list(step), ("pass", 77), ("twin", step[1]), ("pass", True), ("pass",), (*step, 1)):
                self.assertIs(shows_calm(player, Calm((*steps[:at], value, *steps[at + 1:]), rounds)), False)
            self.assertIs(shows_calm(player, Calm(steps[:at], rounds)), False)
        for at, many in enumerate(rounds):
            for value in (*STRANGE, many + 1, many - 1):
                self.assertIs(shows_calm(player, Calm(steps, (*rounds[:at], value, *rounds[at + 1:]))), False)
            self.assertIs(shows_calm(player, Calm(steps, rounds[:at])), False)
        for value in (*STRANGE, list(steps), steps[::-1], rounds, player, Calm):
            self.assertIs(shows_calm(player, value), False)
            self.assertIs(shows_calm(player, Calm(value, rounds)), False)
            if value != rounds:
                self.assertIs(shows_calm(player, Calm(steps, value)), False)
        self.assertIs(shows_calm(player, Calm((*steps[:3], steps[4], steps[3], *steps[5:]), rounds)), False)

    def test_errors(self):
        for value in (*STRANGE, plain_player().store, Player):
            self.assertRaisesJust(BadPlayer("player"), calm, value, None)
            self.assertRaisesJust(BadPlayer("player"), shows_calm, value, None)
        player = plain_player()
        player.step(("get", "p", 0))
        for value in (*STRANGE, 1001, "1", (1,)):
            self.assertRaisesJust(BadNumber(value), calm, player, value)
        self.assertTrue(calm(player, 1000) == calm(player=player, most=4))


if __name__ == "__main__":
    unittest.main()
