"""The two guards, their looker, and two gets that show a gap: point 10."""

import random
import unittest

from stayopen.errors import BadPlayer, Clashing
from stayopen.guards import Gap, Guard, guard
from stayopen.look_guards import shows_guard
from stayopen.lots import Lots
from stayopen.orders import order_of
from stayopen.player import Player
from stayopen.store import Store
from stayopen.two_gets import two_gets
from tests.helpers import STRANGE, Case
from tests.scenes import ask, plain_player, settle
from tests.slow_store import SlowStore, drawn_step, drawn_store, replayed


def rows_model(slow):
    """The rows of the guards, each with the places that it counts, counted anew from a slow store."""
    newest = len(slow.rings) - 1
    rows = []
    for key in sorted({ask["key"] for ask in slow.asks}):
        ended = [ask["kept"][0] for ask in slow.asks if ask["key"] == key and ask["ended"] is not None]
        most = max([(0, ""), *ended])
        for epoch in range(newest + 1):
            if epoch >= newest - 1:
                places = [place for place in slow.copies(key, epoch)
                          if slow.kept[place].get(key, ((0, ""), None, None))[0] < most]
                rows.append((key, epoch, "kept", most, tuple(places)))
            else:
                places = [place for place in slow.copies(key, epoch) if slow.closed[place] < epoch]
                rows.append((key, epoch, "open", None, tuple(places)))
    return rows


def play(seed, steps, **more):
    """A play of drawn steps that can be done, beside a slow store; yields both behind each step."""
    made = random.Random(seed)
    store = drawn_store(made, **more)
    player, slow = Player(store), SlowStore(store)
    for _ in range(steps):
        step = drawn_step(made, slow)
        if slow.error_of(step) is None:
            player.step(step)
            slow.do(step)
            yield player, slow


def weak_player():
    """A play whose newest epoch has a gap: two of three copies keep a put, and one of them goes."""
    player = plain_player(hosts=4, lots=Lots(2, 2), most=3)
    ask(player, "put", "p", 0, 7, read=(0, 10), keep=(0, 10))
    player.step(("begin", ("go", 0)))
    return player


class Guards(Case):
    def test_drawn_plays(self):
        words = {}
        for seed in range(160):
            made = random.Random(seed)
            lots = made.choice((None, None, Lots(1, 1), Lots(1, 2), Lots(2, 1, 1)))
            cares = made.choice((None, (), (), ("older",), ("early",), ("names", "number")))
            for player, slow in play(500 + seed, 130, lots=lots, cares=cares):
                rows, read = rows_model(slow), player.store.lots.read
                bad = [row for row in rows if len(row[4]) >= read]
                told = guard(player)
                self.assertIs(bool(told), not bad)
                self.assertIs(shows_guard(player, told), True)
                if bad:
                    key, epoch, word, _, places = bad[0]
                    self.assertSame(vars(told), {"key": key, "epoch": epoch, "word": word, "places": places[:read]})
                    words[word] = words.get(word, 0) + 1
                else:
                    self.assertSame(vars(told), {"rows": tuple((*row[:4], len(row[4])) for row in rows)})
                    words[None] = words.get(None, 0) + 1
        self.assertGreater(min(words[word] for word in ("kept", "open", None)), 100)

    def test_borne_lots_keep_the_guards(self):
        """Point 10 (a), with falls and lost letters, and sweep and spare of their own."""
        for seed in range(50):
            made = random.Random(900 + seed)
            store = drawn_store(made, lots=Lots(3, 3), cares=())
            room, ring = store.book.room, store.ring
            keep = made.randint(2, room) if room > 1 else 1
            read = min(room, room + 2 - keep)
            sweep = made.randint(room + 2 - read, 5)
            spare = made.randint(0, min(read, keep, sweep) - 1)
            slow = SlowStore(Store(ring, store.book, Lots(read, max(keep, room + 2 - read), sweep, spare)))
            player = Player(slow.store)
            for _ in range(150):
                step = drawn_step(made, slow)
                if slow.error_of(step) is None:
                    player.step(step)
                    slow.do(step)
                    self.assertTrue(guard(player))
            for key in (0, 25, 999999999):
                self.assertTrue(order_of(player.history(key)))

    def test_which_keys_have_rows(self):
        player = plain_player(lots=Lots(2, 2))
        self.assertSame(guard(player).rows, ())
        player.run(("put", "p", 30, 1), ("drop", "p"), ("get", "p", 7), ("tell", "q"))
        self.assertSame(guard(player).rows, ((7, 0, "kept", (0, ""), 0), (30, 0, "kept", (0, ""), 0)))

    def test_fallen_copies_and_such_as_have_gone_count(self):
        player = plain_player(hosts=4, lots=Lots(3, 2), most=3)
        ask(player, "put", "p", 0, 7, read=(0, 10, 20), keep=(10, 20))
        self.assertSame(guard(player).rows, ((0, 0, "kept", (1, "p"), 1),))
        player.run(("fall", 0), ("begin", ("go", 0)))
        self.assertSame(guard(player).rows, ((0, 0, "kept", (1, "p"), 1), (0, 1, "kept", (1, "p"), 1)))
        settle(player, fence=(10, 20, 30), sweep=(10, 20))
        player.run(("begin", ("go", 10)))
        self.assertSame(guard(player).rows, ((0, 0, "open", None, 1), (0, 1, "kept", (1, "p"), 1), (0, 2, "kept", (1, "p"), 1)))

    def test_stamps_are_compared_as_tuples_whatever_is_left_out(self):
        player = plain_player(lots=Lots(2, 2), cares=("names",))
        player.run(("put", "p", 0, 1), ("put", "q", 0, 2))
        player.run(("pass", 0), ("pass", 6), ("pass", 1), ("pass", 7))
        player.run(("pass", 3), ("pass", 11), ("pass", 4), ("pass", 12))
        told = [(letter.number, letter.receiver) for letter in player.letters() if letter.word == "keep" and letter.sender == "p"]
        for number, place in told[:2]:
            player.step(("pass", number))
        for letter in list(player.letters()):
            if letter.word == "kept" or (letter.word == "keep" and letter.sender == "q" and letter.receiver != 20):
                player.step(("pass", letter.number))
        for letter in list(player.letters()):
            if letter.word == "kept":
                player.step(("pass", letter.number))
        self.assertSame([ask.ended is None for ask in player.history(0)], [False, False])
        # The hosts 0 and 10 keep (1, "p"), as numbers alone count; both asks have ended.
        told = guard(player)
        self.assertSame(vars(told), {"key": 0, "epoch": 0, "word": "kept", "places": (0, 10)})


class Looker(Case):
    def test_papers_with_parts_otherwise(self):
        for player in (plain_player(lots=Lots(2, 2)), weak_player(), three_epochs(), fine_player()):
            rows = tuple((*row[:4], len(row[4])) for row in rows_model(replayed(player)))
            read = player.store.lots.read
            is_fine = all(row[4] < read for row in rows)
            self.assertIs(shows_guard(player, Guard(rows)), is_fine)
            self.assertIs(shows_guard(player, Guard(list(rows))), False)
            self.assertIs(shows_guard(player, Guard(rows[::-1])), is_fine and len(rows) < 2)
            for at, row in enumerate(rows):
                self.assertIs(shows_guard(player, Guard((*rows[:at], *rows[at + 1:]))), False)
                self.assertIs(shows_guard(player, Guard((*rows[:at], list(row), *rows[at + 1:]))), False)
                for part in range(5):
                    for value in (*STRANGE, 0, 1, 2, "kept", "open", (1, "q"), (True, "p"), [1, "p"]):
                        other = (*row[:part], value, *row[part + 1:])
                        if not (type(value) is type(row[part]) and value == row[part]):
                            self.assertIs(shows_guard(player, Guard((*rows[:at], other, *rows[at + 1:]))), False)
            for value in (*STRANGE, player, list(rows), Gap):
                self.assertIs(shows_guard(player, value), False)
                self.assertIs(shows_guard(player, Guard(value)), value == () and not rows)

    def test_gaps(self):
        taken = 0
        for player in (weak_player(), three_epochs(), fine_player()):
            rows, read = rows_model(replayed(player)), player.store.lots.read
            places = (0, 10, 20, 30)
            lots = [(one, other) for one in places for other in places]
            for key in (0, 1, 7, None, True):
                for epoch in (-1, 0, 1, 2, 3, True, None):
                    for word in ("kept", "open", None):
                        for lot in lots:
                            wanted = any((key, epoch, word) == row[:3] and type(key) is int and type(epoch) is int
                                         and lot == tuple(place for place in row[4] if place in lot) for row in rows)
                            taken += wanted
                            self.assertIs(shows_guard(player, Gap(key, epoch, word, lot)), wanted)
        self.assertEqual(taken, 2)
        self.assertEqual(read, 2)

    def test_gaps_of_more_places(self):
        player = plain_player(hosts=4, lots=Lots(1, 1), most=3)
        ask(player, "put", "p", 0, 7, read=(0,), keep=(0,))
        self.assertSame(vars(guard(player)), {"key": 0, "epoch": 0, "word": "kept", "places": (10,)})
        for places in ((), (0,), (30,), (10, 20), [10], 10, None, (None,), (True,), ("10",)):
            self.assertIs(shows_guard(player, Gap(0, 0, "kept", places)), False)
        self.assertIs(shows_guard(player, Gap(0, 0, "kept", (20,))), True)

    def test_no_player(self):
        for value in (*STRANGE, weak_player().store, Player):
            self.assertRaisesJust(BadPlayer("player"), guard, value)
            self.assertRaisesJust(BadPlayer("player"), shows_guard, value, None)
            self.assertRaisesJust(BadPlayer("player"), two_gets, value, None)

    def test_the_player_stays_as_it_is(self):
        player = weak_player()
        twin = player.twin()
        gap = guard(player)
        self.assertTrue(shows_guard(player, gap))
        two_gets(player, gap)
        self.assertTrue(player == twin)
        self.assertSame([letter.number for letter in player.letters()], [letter.number for letter in twin.letters()])


class TwoGets(Case):
    def look(self, player, gap):
        """The steps of two gets that end, behind which there is no order."""
        known = {name: player.known(name) for name in player.clients}
        busy = [name for name in player.clients if player.asking(name) is not None]
        steps = two_gets(player, gap)
        self.assertIs(type(steps), tuple)
        self.assertLessEqual({step[0] for step in steps}, {"tell", "get", "pass"})
        gets = [step for step in steps if step[0] == "get"]
        self.assertEqual([step[2] for step in gets], [gap.key] * 2)
        self.assertEqual(len({step[1] for step in gets}), 2)
        self.assertFalse({step[1] for step in gets} & set(busy))
        self.assertLessEqual({step[1] for step in steps if step[0] == "tell"}, {step[1] for step in gets})
        twin, many = player.twin(), len(player.history(gap.key))
        twin.run(*steps)
        told = twin.history(gap.key)
        self.assertEqual(len(told), many + 2)
        self.assertTrue(all(one.ended is not None and one.word == "get" for one in told[many:]))
        self.assertFalse(order_of(told))
        self.assertEqual({name: player.known(name) for name in player.clients}, known)

    def test_drawn_plays(self):
        done = refused = 0
        for seed in range(400):
            made = random.Random(seed)
            lots = made.choice((Lots(1, 1), Lots(1, 2), Lots(2, 1), Lots(2, 2, 1), Lots(2, 2, 2, 2)))
            for player, slow in play(7000 + seed, 150, lots=lots, cares=()):
                pass
            rows = [row for row in rows_model(slow) if row[2] == "kept" and row[1] == player.epoch
                    and len(row[4]) >= player.store.lots.read]
            for key, epoch, word, most, places in rows:
                gap = Gap(key, epoch, word, tuple(sorted(made.sample(range(len(places)), lots.read))))
                gap = Gap(key, epoch, word, tuple(places[at] for at in gap.places))
                standing = [place for place in slow.copies(key, epoch) if place not in slow.fallen]
                latest = [place for place in standing if slow.kept[place].get(key, (None,))[0] == most]
                if set(gap.places) <= set(standing) and len(standing) >= lots.keep and latest:
                    self.look(player, gap)
                    done += 1
                else:
                    self.assertRaisesJust(Clashing("fallen"), two_gets, player, gap)
                    refused += 1
        self.assertGreater(min(done, refused), 15)

    def test_greater_stamps_that_have_not_ended(self):
        player = plain_player(hosts=4, lots=Lots(2, 2), most=4)
        ask(player, "put", "p", 0, 7, read=(0, 10), keep=(0, 10))
        ask(player, "put", "q", 0, 8, read=(0, 10), keep=(10,))
        gap = guard(player)
        self.assertSame(gap.places, (20, 30))
        self.look(player, gap)
        # Where only the greater stamp stands beside the gap, nothing is sure.
        player.step(("fall", 0))
        self.assertRaisesJust(Clashing("fallen"), two_gets, player, gap)

    def test_many_clients(self):
        player = weak_player()
        for name in "abcdefghijklmnoqrs":
            player.run(("get", name, 7))
        self.assertSame(len(player.clients), 19)
        # Only one client can come; the other one has no ask.
        self.look(player, guard(player))
        player = weak_player()
        player.run(("tell", "a"), ("tell", "b"), *[("get", name, 3) for name in "cdefghijklmnopqrs"], ("get", "z", 3))
        self.assertSame(len(player.clients), 20)
        self.look(player, guard(player))

    def test_errors(self):
        player = weak_player()
        gap = guard(player)
        self.assertSame(vars(gap), {"key": 0, "epoch": 1, "word": "kept", "places": (20, 30)})
        for value in (*STRANGE, Guard(()), Gap(0, 1, "kept", (30, 20)), Gap(0, 0, "kept", (20,)), Gap(1, 1, "kept", (20, 30))):
            self.assertRaisesJust(Clashing("gap"), two_gets, player, value)
        player.step(("fall", 20))
        self.assertRaisesJust(Clashing("fallen"), two_gets, player, gap)
        self.assertRaisesJust(Clashing("gap"), two_gets, player, None)
        # A right Guard is no Gap.
        self.assertTrue(guard(fine_player()))
        self.assertRaisesJust(Clashing("gap"), two_gets, fine_player(), guard(fine_player()))
        for care in Store.CARES:
            careless = Player(Store(player.store.ring, player.store.book, player.store.lots, (care,)))
            careless.run(*player.deeds)
            self.assertRaisesJust(Clashing("cares"), two_gets, careless, gap)
            self.assertRaisesJust(Clashing("gap"), two_gets, careless, Gap(0, 1, "kept", ()))

    def test_gaps_of_elder_epochs(self):
        open_gap = Gap(0, 0, "open", (0, 20))
        self.assertTrue(shows_guard(three_epochs(), open_gap))
        self.assertRaisesJust(Clashing("gap"), two_gets, three_epochs(), open_gap)
        player = plain_player(hosts=4, lots=Lots(2, 1))
        ask(player, "put", "p", 0, 7, read=(0, 10), keep=(10,))
        player.run(("begin", ("go", 20)))
        gap = Gap(0, 0, "kept", (0, 20))
        self.assertTrue(shows_guard(player, gap))
        self.assertRaisesJust(Clashing("gap"), two_gets, player, gap)
        self.look(player, Gap(0, 1, "kept", (0, 30)))

    def test_too_few_copies_to_keep(self):
        for keep in (2, 3):
            player = plain_player(hosts=3, lots=Lots(1, keep), most=4)
            ask(player, "put", "p", 0, 7, read=(0,), keep=(0, 10, 20))
            player.step(("begin", ("come", 30, "a")))
            self.look(player, guard(player))
            player.run(("fall", 0), ("fall", 10))
            gap = guard(player)
            self.assertSame(gap.places, (30,))
            # The hosts 20 and 30 stand.
            if keep == 2:
                self.look(player, gap)
            else:
                self.assertRaisesJust(Clashing("fallen"), two_gets, player, gap)


def fine_player():
    """A play of two epochs and of two keys, in which the guards hold."""
    player = plain_player(hosts=4, lots=Lots(2, 3), changes=2)
    ask(player, "put", "p", 0, 7)
    ask(player, "get", "q", 999999999)
    player.run(("begin", ("turn", 0, "b"), ("go", 10)), ("get", "r", 5))
    return player


def three_epochs():
    """A play of three epochs whose keeper spared two copies, with gaps of both words."""
    player = plain_player(hosts=4, lots=Lots(2, 2, 2, 2), most=3, place=10)
    ask(player, "put", "p", 0, 7, read=(0, 10), keep=(10, 20))
    player.run(("begin", ("turn", 0, "b")))
    settle(player, fence=(10, 30))
    player.run(("begin", ("turn", 30, "b")))
    return player


if __name__ == "__main__":
    unittest.main()
