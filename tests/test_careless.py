"""Careless runs: stayopen/careless.py, points 9 and 10 (d)."""

import itertools
import unittest

from stayopen.books import Book
from stayopen.careless import careless
from stayopen.errors import BadCare, BadLots, BadQuota, Clashing, Nothing, OpenError, TooMany
from stayopen.four_lots import four
from stayopen.lots import Lots
from stayopen.nested import room
from stayopen.orders import order_of
from stayopen.player import Player
from stayopen.quotas import Quotas
from stayopen.store import Store
from tests.helpers import STRANGE
from tests.test_lots import NO_LOTS
from tests.test_runs import QUOTAS, Looks

CARES = ("back", "early", "names", "number", "older", "stamp")


class Careless(Looks):
    def test_each_care_of_right_lots(self):
        counts = {"right": 0, "wrong": 0, "idle": 0}
        for quotas in QUOTAS:
            book = quotas.as_book()
            for number, (read, keep, sweep, spare) in enumerate(itertools.product(*[range(1, 6)] * 3, range(5))):
                lots = Lots(read, keep, sweep, spare)
                told = four(quotas, lots)
                if not told or told.idle:
                    if number % 23 == 0:
                        error = Nothing() if told else Clashing("lots")
                        self.assertRaisesJust(error, careless, quotas, lots, CARES[number % 6])
                        counts["idle" if told else "wrong"] += 1
                    continue
                for care in CARES if number % 3 == 0 else (CARES[number % 6],):
                    run = careless(quotas, lots, care)
                    self.look_at(run, book, lots, cares=(care,))
                    self.begins_of_one_change(run)
                    self.careful_plays_do_not_break(run)
                    counts["right"] += 1
        self.assertGreater(min(counts.values()), 20)
        self.assertGreater(counts["right"], 250)

    def begins_of_one_change(self, run):
        self.assertLessEqual({len(step) for step in run.steps if step[0] == "begin"}, {2})

    def careful_plays_do_not_break(self, run):
        """The same steps of a store without a care left out, as far as they can be carried out."""
        store = run.store
        player = Player(Store(store.ring, store.book, store.lots))
        for step in run.steps:
            if not player.attempt(step):
                break
        self.assertTrue(order_of(player.history(0)))

    def test_read_lots_of_all_copies(self):
        """No get can do without a copy, so only a copy that has gone can be forgotten."""
        for most in (2, 3, 4, 5):
            for lots in (Lots(most, 2), Lots(most, most), Lots(2, most), Lots(most, 2, 5), Lots(most, 2, 2, 0)):
                for care in CARES:
                    self.look_at(careless(Quotas(most=most), lots, care), Book({"": 0}, most=most), lots, cares=(care,))

    def test_errors(self):
        crossing = Quotas((1, ("a", "b")), (1, ("b", "c")), most=2)
        wide = Quotas((1, ("a",)), (1, ("b",)), (1, ("c",)), (1, ("d",)), (1, ("e",)), (1, ("f",)), most=5)
        both = Quotas(*wide.pairs, *crossing.pairs, most=5)
        for value in (*STRANGE, Book({})):
            self.assertRaisesJust(BadQuota("quotas"), careless, value, None, None)
        for value in NO_LOTS:
            self.assertRaisesJust(BadLots("lots"), careless, crossing, value, None)
        for value in (*STRANGE, "backs", ("back",), ["back"], {"back": 1}, crossing):
            self.assertRaisesJust(BadCare(value), careless, crossing, Lots(1, 1), value)
        for quotas in (crossing, both):
            self.assertRaisesJust(Clashing("nested"), careless, quotas, Lots(1, 1), "back")
        for lots in (Lots(1, 1), Lots(5, 5), Lots(5, 2)):
            self.assertRaisesJust(TooMany("states", 64), careless, wide, lots, "back")
        self.assertRaisesJust(Clashing("lots"), careless, Quotas(most=3), Lots(2, 2), "back")
        self.assertRaisesJust(Clashing("lots"), careless, Quotas(most=3), Lots(3, 2, 2, 2), "older")
        self.assertRaisesJust(Nothing(), careless, care="back", quotas=Quotas(most=3), lots=Lots(4, 1))
        self.assertRaisesJust(Nothing(), careless, Quotas((0, ("",)), most=3), Lots(1, 1), "stamp")

    def test_rooms(self):
        self.assertEqual(sorted({room(quotas) for quotas in QUOTAS}), [0, 1, 2, 3, 4, 5])
        self.assertTrue(issubclass(BadCare, OpenError))


if __name__ == "__main__":
    unittest.main()
