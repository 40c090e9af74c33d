"""Plays of many drawn steps, held at each step against a slow store."""

import random
import unittest

from stayopen.errors import OpenError
from stayopen.histories import zones
from stayopen.lots import Lots
from stayopen.player import Player
from tests.helpers import Case
from tests.slow_store import (KEYS, SlowStore, drawn_step, drawn_store, history_of_slow, plain, replayed, seen_of_player,
                              seen_of_slow)


class Plays(Case):
    def assertAlike(self, player, slow):
        self.assertSame(seen_of_player(player), seen_of_slow(slow))
        for key in KEYS:
            told = [(ask.client, ask.word, ask.begun, ask.ended, ask.told) for ask in player.history(key)]
            self.assertSame(told, history_of_slow(slow, key))
            for epoch in range(player.epoch + 1):
                self.assertSame(player.copies_of(key, epoch), tuple(slow.copies(key, epoch)))
        for ask in slow.asks:
            wanted = ask["kept"] if ask["ended"] is not None else None
            self.assertSame(plain(player.answer(ask["number"])), wanted)

    def do(self, player, slow, step):
        """The step is done by both, or by none, with the same error."""
        error = slow.error_of(step)
        if error is None:
            self.assertIsNone(player.step(step))
            slow.do(step)
        else:
            self.assertRaisesJust(error, player.step, step)

    def play(self, seed, steps, **more):
        made = random.Random(seed)
        store = drawn_store(made, **more)
        player, slow = Player(store), SlowStore(store)
        for _ in range(steps):
            self.do(player, slow, drawn_step(made, slow))
            self.assertAlike(player, slow)
        return player, slow

    def test_drawn_plays(self):
        words, errors, epochs, ended = set(), 0, 0, 0
        for seed in range(70):
            player, slow = self.play(seed, 110)
            words |= {step[0] for step in player.deeds}
            errors += 110 - player.clock
            epochs = max(epochs, player.epoch)
            ended += sum(ask["ended"] is not None for ask in slow.asks)
        # That the plays are worth something.
        self.assertEqual(len(words), 11)
        self.assertGreater(min(errors, ended), 100)
        self.assertGreater(epochs, 4)

    def test_each_care_alone_and_all(self):
        for cares in (("back",), ("stamp",), ("number",), ("names",), ("early",), ("older",),
                      ("back", "early", "names", "number", "older", "stamp")):
            for seed in range(6):
                self.play(1000 + seed, 120, cares=cares, lots=Lots(2, 2))

    def test_undo_trial_twin_and_run(self):
        for seed in range(25):
            made = random.Random(2000 + seed)
            player, slow = self.play(2000 + seed, 60)
            start = player.twin()
            for _ in range(12):
                seen = seen_of_player(player)
                with player.trial() as same:
                    self.assertIs(same, player)
                    for _ in range(made.randint(0, 5)):
                        if player.clock and made.random() < 0.5:
                            step = player.undo()
                            self.assertSame(step, slow.deeds[-1] if slow.deeds else step)
                            slow.back()
                        else:
                            self.do(player, slow, drawn_step(made, slow))
                        self.assertAlike(player, slow)
                self.assertSame(seen_of_player(player), seen)
                slow = SlowStore(player.store)
                for step in player.deeds:
                    slow.do(step)
                self.do(player, slow, drawn_step(made, slow))
            self.assertAlike(start, replayed(start))
            self.assertTrue(Player(player.store) != player)
            again = Player(player.store)
            again.run(*player.deeds)
            self.assertTrue(again == player)
            self.assertSame(seen_of_player(again), seen_of_player(player))
            while player.clock:
                self.assertSame(player.undo(), again.deeds[player.clock])
            self.assertSame(seen_of_player(player), seen_of_player(Player(player.store)))

    def test_runs_of_which_a_step_cannot_be_done(self):
        for seed in range(25):
            made = random.Random(3000 + seed)
            player, slow = self.play(3000 + seed, 40)
            for _ in range(10):
                twin, steps, error = player.twin(), [], None
                ahead = SlowStore(player.store)
                for step in player.deeds:
                    ahead.do(step)
                for _ in range(6):
                    steps.append(drawn_step(made, ahead))
                    error = error or ahead.error_of(steps[-1])
                    if error is None:
                        ahead.do(steps[-1])
                seen = seen_of_player(player)
                if error is None:
                    self.assertIsNone(player.run(*steps))
                    self.assertAlike(player, ahead)
                else:
                    self.assertRaisesJust(error, player.run, *steps)
                    self.assertSame(seen_of_player(player), seen)
                    self.assertTrue(player == twin)


def fits_an_order(asks):
    """Whether the asks of a key have an order: point 11."""
    for ask in asks:
        if ask.told is not None and ask.is_ahead(asks[ask.told]):
            return False
    told = zones(asks)
    return not any(one[1] < other[2] and other[1] < one[2] for at, one in enumerate(told) for other in told[:at])


def keys_of(player):
    """The keys of all asks, by their numbers."""
    return [step[2] for step in player.deeds if step[0] in ("put", "get")]


class Statement(Case):
    """Point 10 (a): runs of lots that the book bears, with no care left out."""

    def test_every_key_is_one_register_and_the_guards_hold(self):
        ended = 0
        for seed in range(60):
            made = random.Random(4000 + seed)
            store = drawn_store(made, lots=Lots(3, 2), cares=())
            room = store.book.room
            lots = {1: Lots(1, 2), 2: Lots(2, 2), 3: made.choice((Lots(3, 2), Lots(2, 3))), 4: Lots(3, 3)}[room]
            # Two changes at once want one copy more, so these begins have one change each.
            store = type(store)(store.ring, store.book, lots)
            player, slow = Player(store), SlowStore(store)
            for _ in range(350):
                step = drawn_step(made, slow)
                if step[0] != "fall" and slow.error_of(step) is None:
                    player.step(step)
                    slow.do(step)
                    self.guards_hold(player)
            for key in KEYS:
                asks = player.history(key)
                ended += sum(ask.ended is not None for ask in asks)
                self.assertTrue(fits_an_order(asks), (seed, key))
                self.in_the_order_of_stamps(player, key)
        self.assertGreater(ended, 200)

    def guards_hold(self, player):
        read, keys = player.store.lots.read, keys_of(player)
        for key in KEYS:
            answers = [player.answer(number) for number, other in enumerate(keys) if other == key]
            most = max([kept.stamp for kept in answers if kept is not None], default=(0, ""))
            for epoch in range(player.epoch + 1):
                hosts = [player.host(place) for place in player.copies_of(key, epoch)]
                if epoch >= player.epoch - 1:
                    self.assertLess(sum(host.kept(key).stamp < most for host in hosts), read)
                else:
                    self.assertLess(sum(host.closed < epoch for host in hosts), read)

    def in_the_order_of_stamps(self, player, key):
        """An ask that ended ahead of another one has no greater stamp; a put behind it a greater one."""
        numbers = [number for number, other in enumerate(keys_of(player)) if other == key]
        asks = dict(zip(numbers, player.history(key)))
        for one in numbers:
            for other in numbers:
                if asks[one].is_ahead(asks[other]) and asks[other].ended is not None:
                    stamps = player.answer(one).stamp, player.answer(other).stamp
                    if asks[other].word == "put":
                        self.assertLess(*stamps)
                    else:
                        self.assertLessEqual(*stamps)


if __name__ == "__main__":
    unittest.main()
