"""Players: stayopen/player.py. What they take, tell and take back; test_rounds.py has what steps do."""

import unittest

from stayopen.books import Book
from stayopen.errors import (BadChange, BadNumber, BadPlayer, BadStep, Clashing, NoClient, NoHost, NoLetter, Nothing,
                             TooMany)
from stayopen.histories import Ask
from stayopen.letters import Letter
from stayopen.lots import Lots
from stayopen.player import Asking, Player
from stayopen.rings import Ring
from stayopen.stamps import Kept
from stayopen.store import Store
from tests.helpers import STRANGE, Case
from tests.scenes import ask, give, letters, on_way, plain_player, settle
from tests.slow_store import seen_of_player

LAST = 999999999
NO_EPOCHS = [*STRANGE, 2, "0", (0,), 10 ** 50]
NO_KEYS = [value for value in (*STRANGE, LAST + 1, "0", (0,))]


def busy_player():
    """A play in which much is on the way: two epochs, asks that run, ended and were dropped."""
    player = plain_player(4)
    ask(player, "put", "p", 5, 7, keep=(10, 20, 30))
    player.run(("begin", ("go", 10)), ("put", "q", 5, 8), ("get", "r", 6), ("drop", "r"), ("tell", "s"), ("fall", 30))
    give(player, "fence", (0, 20))
    give(player, "fenced", (20,))
    give(player, "hear", (20,))
    return player


class Tells(Case):
    def test_at_the_beginning(self):
        store = Store(Ring((5, "a")), Book({"": 0}), Lots(1, 1))
        player = Player(store)
        self.assertIs(player.store, store)
        self.assertSame([player.deeds, player.clock, player.epoch, player.is_settled, player.clients, player.fallen],
                        [(), 0, 0, True, (), ()])
        self.assertSame([player.swept(0), player.fenced(0), list(player.letters()), player.history(5)], [None, (), [], ()])
        self.assertSame([list(player.ring_of(0)), player.copies_of(6, 0)], [[(5, "a")], (5,)])
        self.assertSame([player.host(5).place, player.host(5).closed, len(player.host(5))], [5, -1, 0])
        self.assertTrue(Player(store=store) == player)
        for value in (*STRANGE, store.ring, player):
            self.assertRaisesJust(BadPlayer("store"), Player, value)

    def test_what_is_told(self):
        player = busy_player()
        self.assertSame([player.clients, player.fallen, player.epoch, player.is_settled], [("p", "q", "r", "s"), (30,), 1, False])
        self.assertSame([player.known(name) for name in player.clients], [0, 0, 0, 1])
        self.assertSame([player.asking(name) for name in "prs"], [None] * 3)
        self.assertTrue(player.asking("q") == Asking(1, "put", 5, 0, 1, 0, None, ()))
        self.assertSame([player.fenced(0), player.fenced(1), player.swept(0), player.swept(1)], [(), (20,), None, None])
        self.assertTrue(player.history(5) == (Ask("p", "put", 0, 12), Ask("q", "put", 14)))
        self.assertTrue(player.history(6) == (Ask("r", "get", 15),))
        self.assertSame([player.answer(0).stamp, player.answer(1), player.answer(2)], [(1, "p"), None, None])
        self.assertSame([player.copies_of(5, 0), player.copies_of(5, 1)], [(10, 20, 30), (20, 30, 0)])
        self.assertSame([list(player.ring_of(1)), player.host(10).place], [[(0, "a"), (20, "a"), (30, "a")], 10])
        self.assertSame(player.clock, len(player.deeds))

    def test_histories(self):
        player = plain_player(3, lots=Lots(2, 2))
        ask(player, "get", "p", 5)
        ask(player, "put", "q", 9, 1)
        ask(player, "put", "q", 5, 2)
        ask(player, "get", "p", 5)
        told = player.history(5)
        self.assertSame([ask.told for ask in told], [None, None, 1])
        self.assertSame([ask.word for ask in told], ["get", "put", "get"])
        self.assertSame([player.answer(number).put for number in range(4)], [None, 1, 2, 2])
        # A get that has not ended tells nothing, though it has a put already.
        player.step(("get", "r", 5))
        give(player, "hear")
        give(player, "heard")
        self.assertSame([player.asking("r").kept.put, player.history(5)[3].told, player.history(5)[3].ended], [2, None, None])
        # It ends at the step at which the answer comes that is enough.
        give(player, "keep")
        first, second, third = on_way(player, "kept")
        player.run(("pass", first), ("lose", third), ("pass", second))
        self.assertSame([player.history(5)[3].ended, player.clock, player.history(5)[3].told], [player.clock - 1, player.clock, 1])
        self.assertSame(player.history(5)[0].begun, 0)

    def test_arguments_by_name(self):
        player = busy_player()
        self.assertSame(player.copies_of(epoch=1, key=5), (20, 30, 0))
        self.assertSame([player.known(client="s"), player.host(place=0).place, player.fenced(epoch=1)], [1, 0, (20,)])
        self.assertSame([player.letter(number=on_way(player)[0]).number, player.asking(client="p")], [on_way(player)[0], None])
        self.assertSame([player.swept(epoch=0), len(player.history(key=6)), player.answer(ask=2)], [None, 1, None])
        self.assertSame([len(player.ring_of(epoch=0)), player.attempt(step=("settle",)), player.step(step=("settle",))],
                        [4, True, None])

    def test_wrong_arguments(self):
        player = busy_player()
        seen = seen_of_player(player)
        for value in NO_KEYS:
            self.assertRaisesJust(BadNumber(value), player.copies_of, value, None)
            self.assertRaisesJust(BadNumber(value), player.history, value)
        for value in NO_EPOCHS:
            for work in (player.ring_of, player.swept, player.fenced, lambda epoch: player.copies_of(5, epoch)):
                self.assertRaisesJust(BadNumber(value), work, value)
        for value in (*STRANGE, 3, "0"):
            self.assertRaisesJust(BadNumber(value), player.answer, value)
        for value in (*STRANGE, 5, LAST, "0", LAST + 1):
            self.assertRaisesJust(NoHost(value), player.host, value)
        for value in (*STRANGE, "z", ("p",), "pp"):
            self.assertRaisesJust(NoClient(value), player.known, value)
            self.assertRaisesJust(NoClient(value), player.asking, value)
        for value in (*STRANGE, 0, 10 ** 9, "0", (0,)):
            self.assertRaisesJust(NoLetter(value), player.letter, value)
        self.assertSame(seen_of_player(player), seen)

    def test_what_is_returned_belongs_to_the_caller(self):
        player = plain_player(4)
        ask(player, "put", "p", 5, 7)
        player.step(("begin", ("go", 10)))
        give(player, "fence")
        give(player, "fenced")
        seen = seen_of_player(player)
        player.swept(1).clear()
        self.assertSame(seen_of_player(player), seen)
        self.assertSame(list(player.swept(1)), [5])

    def test_letters_are_those_at_the_first_request(self):
        player = plain_player(3)
        player.step(("put", "p", 5, 7))
        told = player.letters()
        player.step(("lose", 0))
        self.assertSame(next(told).number, 1)
        player.run(("lose", 2), ("get", "q", 6))
        self.assertSame([letter.number for letter in told], [2])
        self.assertSame([letter.number for letter in player.letters()], [1, 3, 4, 5])
        # By their numbers also where one is on the way again.
        player.step(("lose", 1))
        player.undo()
        self.assertSame([letter.number for letter in player.letters()], [1, 3, 4, 5])
        self.assertTrue(player.letter(1) == Letter(1, "p", 20, "hear", (0, 0, 0, 5)))


class Errors(Case):
    def refused(self, player, error, step):
        """A step that raises changes nothing, and cannot be attempted."""
        seen = seen_of_player(player)
        self.assertRaisesJust(error, player.step, step)
        self.assertIs(player.attempt(step), False)
        self.assertRaisesJust(error, player.run, ("settle",), step)
        self.assertSame(seen_of_player(player), seen)

    def test_what_is_no_step(self):
        player = busy_player()
        for value in (*STRANGE, ["settle"], ("settle", 1), ("put", "p", 5), ("put", "p", 5, 10 ** 40), ("pass", -1),
                      ("begin",), ("begin", *[("go", 0)] * 4), ("fall", "0"), ("again", "P"), player):
            self.refused(player, BadStep(value), value)
        self.assertRaisesJust(BadStep(None), player.run, None)
        self.assertIsNone(player.run())

    def test_asks(self):
        player = busy_player()
        self.refused(player, Clashing("busy"), ("put", "q", 5, 7))
        self.refused(player, Clashing("busy"), ("get", "q", 99))
        for step in (("again", "z"), ("drop", "z")):
            self.refused(player, NoClient("z"), step)
        for name in ("p", "r", "s"):
            for word in ("again", "drop"):
                self.refused(player, Clashing("idle"), (word, name))

    def test_letters_and_falls(self):
        player = busy_player()
        for word in ("pass", "twin", "lose"):
            self.refused(player, NoLetter(0), (word, 0))
            self.refused(player, NoLetter(10 ** 60), (word, 10 ** 60))
        self.refused(player, NoHost(5), ("fall", 5))
        self.refused(player, Clashing("fallen"), ("fall", 30))
        # A host that has gone can fall.
        self.assertIs(player.attempt(("fall", 10)), True)
        lost = on_way(player)[0]
        player.step(("lose", lost))
        self.refused(player, NoLetter(lost), ("pass", lost))

    def test_begins(self):
        come, go = ("come", 5, "a"), ("go", 10)
        player = plain_player(4)
        self.refused(player, Clashing("changes"), ("begin", come, go))
        self.refused(player, Clashing("changes"), ("begin", ("come", 0, "a"), ("go", 77)))
        self.refused(player, Clashing("place"), ("begin", ("come", 0, "a")))
        self.refused(player, BadChange(("go", 77)), ("begin", ("go", 77)))
        self.refused(player, BadChange(("turn", 10, "a")), ("begin", ("turn", 10, "a")))
        self.refused(player, BadChange(("turn", 77, "a")), ("begin", ("turn", 77, "a")))
        player.step(("begin", go))
        self.refused(player, Clashing("settling"), ("begin", come))
        self.refused(player, Clashing("settling"), ("begin", come, ("come", 10, "a")))
        settle(player)
        # A place that ever had a host does not get one again, and no host stands there to go.
        self.refused(player, Clashing("place"), ("begin", ("come", 10, "b")))
        self.refused(player, BadChange(go), ("begin", go))
        self.assertIs(player.attempt(("begin", come)), True)

    def test_several_changes(self):
        player = plain_player(4, changes=3)
        go, come, turn = ("go", 0), ("come", 5, "b"), ("turn", 10, "b")
        self.refused(player, Clashing("place"), ("begin", ("go", 77), ("come", 10, "a")))
        self.refused(player, BadChange(("turn", 0, "b")), ("begin", go, ("turn", 0, "b")))
        self.refused(player, BadChange(("come", 5, "c")), ("begin", come, ("come", 5, "c"), ("go", 77)))
        self.refused(player, Clashing("place"), ("begin", go, ("come", 0, "b")))
        player.step(("begin", go, come, turn))
        self.assertSame(list(player.ring_of(1)), [(5, "b"), (10, "b"), (20, "a"), (30, "a")])

    def test_a_hundred_hosts(self):
        player = plain_player(100, changes=2)
        self.refused(player, TooMany("hosts", 100), ("begin", ("come", 5, "a")))
        self.refused(player, BadChange(("go", 7)), ("begin", ("come", 5, "a"), ("go", 7)))
        player.step(("begin", ("come", 5, "a"), ("go", 0)))
        self.assertSame([len(player.ring_of(1)), len(on_way(player, "fence"))], [100, 100])


class Bounds(Case):
    def test_steps(self):
        player = plain_player(3)
        player.run(*[("settle",)] * 1999)
        self.assertRaisesJust(TooMany("steps", 2000), player.run, ("tell", "p"), ("tell", "q"))
        self.assertSame([player.clock, player.clients], [1999, ()])
        player.step(("put", "p", 5, 7))
        for step in (("settle",), ("put", "p", 5, 7), ("pass", 99), ("begin", ("go", 77)), ("again", "z")):
            self.assertRaisesJust(TooMany("steps", 2000), player.step, step)
            self.assertIs(player.attempt(step), False)
        self.assertRaisesJust(BadStep(("settle", 1)), player.step, ("settle", 1))
        self.assertSame(player.undo(), ("put", "p", 5, 7))
        self.assertIs(player.attempt(("pass", 0)), False)
        self.assertIs(player.attempt(("tell", "z")), True)
        self.assertSame([player.clock, player.deeds[-1], len(player.twin().deeds)], [2000, ("tell", "z"), 2000])

    def test_clients(self):
        player = plain_player(3)
        names = [letter * 2 for letter in "abcdefghijklmnopqrst"]
        player.run(*[("tell", name) for name in names[:10]], *[("put", name, 1, 0) for name in names[10:]])
        self.assertSame(player.clients, tuple(names))
        for step in (("tell", "z"), ("put", "z", 1, 0), ("get", "z", 2)):
            self.assertRaisesJust(TooMany("clients", 20), player.step, step)
        player.undo()
        player.step(("tell", "cab"))
        self.assertSame(player.clients, ("aa", "bb", "cab", *names[2:19]))
        player.run(("tell", "aa"), ("get", "bb", 2), ("tell", "cab"))
        self.assertRaisesJust(Clashing("busy"), player.step, ("get", "ss", 1))

    def test_keys_and_asks(self):
        player = plain_player(0)
        for key in range(40):
            player.run(("get", "p", key), ("drop", "p"))
        self.assertRaisesJust(TooMany("keys", 40), player.step, ("put", "p", 40, 0))
        player.run(*[("tell", letter * 3) for letter in "abcdefghijklmnopqrs"])
        self.assertRaisesJust(TooMany("clients", 20), player.step, ("put", "z", 40, 0))
        for _ in range(160):
            player.run(("put", "p", 39, 0), ("drop", "p"))
        self.assertRaisesJust(TooMany("asks", 200), player.step, ("get", "p", 0))
        self.assertRaisesJust(TooMany("keys", 40), player.step, ("get", "p", 40))
        player.undo()
        self.assertRaisesJust(Clashing("busy"), player.step, ("get", "p", 40))
        player.undo()
        player.step(("get", "p", 0))
        self.assertSame(len(player.history(39)), 160)
        self.assertRaisesJust(TooMany("asks", 200), player.step, ("get", "aaa", 0))

    def test_epochs(self):
        # One host alone is shut at once, as one copy can be spared.
        player = plain_player(1, most=2, lots=Lots(2, 2))
        for number in range(59):
            player.step(("begin", ("turn", 0, "b" if number % 2 == 0 else "a")))
            self.assertIs(player.is_settled, True)
        self.assertSame(player.epoch, 59)
        self.assertRaisesJust(TooMany("epochs", 60), player.step, ("begin", ("turn", 0, "a")))
        self.assertRaisesJust(BadChange(("turn", 0, "b")), player.step, ("begin", ("turn", 0, "b")))
        self.assertRaisesJust(Clashing("place"), player.step, ("begin", ("come", 0, "b")))
        player.undo()
        player.step(("begin", ("come", 7, "q")))
        self.assertSame([player.epoch, len(player.ring_of(59))], [59, 2])


class TakenBack(Case):
    def test_undo(self):
        player = plain_player(3)
        self.assertRaisesJust(Nothing(), player.undo)
        player.run(("put", "p", 5, 7), ("begin", ("go", 0)))
        self.assertSame([player.undo(), player.epoch, player.clock, len(on_way(player))], [("begin", ("go", 0)), 0, 1, 3])
        self.assertSame(player.undo(), ("put", "p", 5, 7))
        self.assertRaisesJust(Nothing(), player.undo)
        self.assertTrue(player == plain_player(3))
        # The same letters are sent anew, by the same numbers.
        player.step(("get", "q", 6))
        self.assertSame(on_way(player), [0, 1, 2])

    def test_run(self):
        player = plain_player(3)
        self.assertRaisesJust(NoLetter(3), player.run, ("put", "p", 5, 7), ("pass", 0), ("pass", 1), ("twin", 3), ("lose", 3),
                              ("pass", 4), ("pass", 3))
        self.assertTrue(player == plain_player(3))
        self.assertRaisesJust(BadStep(5), player.run, ("put", "p", 5, 7), 5)
        self.assertRaisesJust(BadStep([("settle",)]), player.run, [("settle",)])
        self.assertSame(seen_of_player(player), seen_of_player(plain_player(3)))

    def test_trial(self):
        player = busy_player()
        seen, epoch = seen_of_player(player), player.epoch
        with player.trial() as same:
            self.assertIs(same, player)
            player.run(("again", "q"), ("settle",), ("fall", 20))
            with same.trial():
                while player.clock:
                    player.undo()
                player.run(("put", "zz", 5, 1), ("pass", 0))
                self.assertSame([player.epoch, player.clients], [0, ("zz",)])
            self.assertSame([player.epoch, player.clock], [epoch, seen["clock"] + 3])
        self.assertSame(seen_of_player(player), seen)

    def test_errors_that_leave_a_block(self):
        player = busy_player()
        seen = seen_of_player(player)
        for error in (KeyError("a"), Nothing()):
            with self.assertRaises(type(error)) as caught:
                with player.trial():
                    player.step(("settle",))
                    raise error
            self.assertIs(caught.exception, error)
            self.assertSame(seen_of_player(player), seen)

    def test_the_block_begins_when_it_is_entered(self):
        player = plain_player(3)
        block = player.trial()
        player.step(("put", "p", 5, 7))
        with block:
            player.step(("pass", 0))
        self.assertSame(player.deeds, (("put", "p", 5, 7),))

    def test_tried(self):
        player = busy_player()
        seen = seen_of_player(player)
        self.assertSame(player.tried(lambda same: [same is player, same.run(("settle",)), same.clock]),
                        [True, None, seen["clock"] + 1])
        self.assertSame(player.tried(work=lambda same: same.attempt(("begin", ("go", 0)))), False)

        def fails(same):
            same.step(("settle",))
            raise KeyError("why")

        self.assertRaises(KeyError, player.tried, fails)
        self.assertSame(seen_of_player(player), seen)

    def test_twins(self):
        player = busy_player()
        twin, seen = player.twin(), seen_of_player(player)
        self.assertTrue(player == twin)
        self.assertIs(type(twin), Player)
        self.assertSame(seen_of_player(twin), seen)
        twin.run(("settle",), ("fall", 20))
        self.assertSame(seen_of_player(player), seen)
        self.assertIs(player == twin, False)
        player.step(("lose", on_way(player)[0]))
        self.assertSame(len(twin.deeds), seen["clock"] + 2)
        twin.undo()
        twin.undo()
        while player.clock:
            player.undo()
        self.assertSame(seen_of_player(twin), seen)
        with twin.trial():
            third = twin.twin()
            third.step(("settle",))
        self.assertSame([third.clock, twin.clock], [seen["clock"] + 1, seen["clock"]])

    def test_equality(self):
        player = busy_player()
        again = Player(player.store)
        again.run(*player.deeds)
        self.assertIs(player == again, True)
        self.assertIs(player != again, False)
        again.undo()
        self.assertIs(player == again, False)
        # Equal states by unlike deeds are not equal; nor are equal deeds of unlike stores.
        one, other = plain_player(3), plain_player(3)
        one.step(("settle",))
        self.assertIs(one == other, False)
        self.assertIs(plain_player(3) == plain_player(3, lots=Lots(2, 2)), False)
        self.assertIs(plain_player(3) == plain_player(3, cares=["back"]), False)
        for value in (*STRANGE, player.store, player.deeds):
            self.assertIs(player == value, False)
            self.assertIs(player != value, True)


class Papers(Case):
    def test_asking(self):
        player = plain_player(3)
        player.run(("get", "p", 5), ("pass", 0), ("pass", 1))
        give(player, "heard", (20,))
        wanted = {"ask": 0, "word": "get", "key": 5, "epoch": 0, "stage": 1, "attempt": 0, "kept": None, "noted": (20,)}
        self.assertSame(vars(player.asking("p")), wanted)
        give(player, "heard")
        self.assertTrue(player.asking("p") == Asking(0, "get", 5, 0, 2, 1, Kept((0, ""), None, None), ()))
        give(player, "keep")
        self.assertSame([letter[3:] for letter in letters(player)], [("hear", (0, 0, 0, 5)), *[("kept", (0, 1))] * 3])
        give(player, "kept", (20,))
        give(player, "kept", (0,))
        self.assertSame(player.asking("p").noted, (0, 20))


if __name__ == "__main__":
    unittest.main()
