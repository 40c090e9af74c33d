"""Stores and steps: stayopen/store.py, stayopen/steps.py."""

import itertools
import unittest

from stayopen.books import Book
from stayopen.errors import BadBook, BadCare, BadLots, BadNumber, BadRing
from stayopen.lots import Lots
from stayopen.rings import Ring
from stayopen.steps import STEPS, is_step
from stayopen.store import Store
from tests.helpers import STRANGE, Case
from tests.test_pairs import BAD_CHANGES

RING, BOOK, LOTS = Ring((1, "a")), Book({"": 0}), Lots(2, 3)
CARES = ("back", "early", "names", "number", "older", "stamp")
LAST = 999999999
BIG = 10 ** 40


class Stores(Case):
    def test_attributes(self):
        store = Store(RING, BOOK, LOTS, ["stamp", "back"], 3)
        self.assertIs(store.ring, RING)
        self.assertIs(store.book, BOOK)
        self.assertIs(store.lots, LOTS)
        self.assertSame([store.cares, store.changes], [("back", "stamp"), 3])
        store = Store(lots=LOTS, book=BOOK, ring=Ring())
        self.assertSame([store.cares, store.changes, len(store.ring)], [(), 1, 0])
        self.assertSame(Store.CARES, CARES)
        self.assertSame(Store(RING, BOOK, LOTS, CARES[::-1]).cares, CARES)

    def test_what_is_handed_in_can_be_changed(self):
        cares = ["stamp"]
        store = Store(RING, BOOK, LOTS, cares)
        cares.append("back")
        self.assertSame(store.cares, ("stamp",))

    def test_errors(self):
        for value in STRANGE:
            self.assertRaisesJust(BadRing("ring"), Store, value, value, value, value, value)
            self.assertRaisesJust(BadBook("book"), Store, RING, value, value, value, value)
            self.assertRaisesJust(BadLots("lots"), Store, RING, BOOK, value, value, value)
            if not isinstance(value, (list, tuple)):
                self.assertRaisesJust(BadCare(value), Store, RING, BOOK, LOTS, value, value)
            self.assertRaisesJust(BadCare(value), Store, RING, BOOK, LOTS, ["back", value, "back"], value)
        for value in ("back", "Back", "backs", "", {"back": 1}, Lots(1, 1)):
            self.assertRaisesJust(BadCare(value), Store, RING, BOOK, LOTS, ("back", value), 0)
        for value in BAD_CHANGES:
            self.assertRaisesJust(BadNumber(value), Store, RING, BOOK, LOTS, (), value)
        for changes in (1, 2, 3):
            self.assertSame(Store(RING, BOOK, LOTS, (), changes).changes, changes)

    def test_equality(self):
        told = (RING, BOOK, LOTS, ("back",), 2)
        store = Store(*told)
        self.assertIs(store == Store(Ring((1, "a")), Book({"": 1}, {"": 0}), Lots(2, 3, 3, 1), ["back"], 2), True)
        for at, other in ((0, Ring((1, "b"))), (1, Book({"": 0}, most=2)), (2, Lots(2, 3, 3, 0)), (3, ()),
                          (3, ("back", "early")), (4, 1)):
            self.assertIs(store == Store(*told[:at], other, *told[at + 1:]), False)
            self.assertIs(store != Store(*told[:at], other, *told[at + 1:]), True)
        for value in (*STRANGE, told, RING):
            self.assertIs(store == value, False)


class Steps(Case):
    def test_steps(self):
        self.assertSame(STEPS, ("put", "get", "tell", "again", "drop", "pass", "twin", "lose", "fall", "begin", "settle"))
        come, go, turn = ("come", 0, "a"), ("go", LAST), ("turn", 5, "abcdefgh")
        for step in (("put", "p", 0, 0), ("put", "abcdefgh", LAST, BIG - 1), ("put", "p", 5, 1 - BIG), ("get", "p", LAST),
                     ("tell", "p"), ("again", "p"), ("drop", "p"), ("pass", 0), ("twin", 10 ** 50), ("lose", 7),
                     ("fall", 0), ("fall", LAST), ("begin", come), ("begin", go, turn), ("begin", go, go, go), ("settle",)):
            self.assertIs(is_step(step), True, step)
            self.assertIs(is_step(list(step)), False, step)
            self.assertIs(is_step((*step, 1)), False, step)
            self.assertIs(is_step((*step, None)), False, step)
            self.assertIs(is_step((step[0].upper(), *step[1:])), False, step)
            if len(step) > 1 and (step[0] != "begin" or len(step) == 2):
                self.assertIs(is_step(step[:-1]), False, step)
        for step in (("begin", go, go, go, go), ("begin",), ("begin", [*go]), ("begin", (come,)), ("begin", ("come", 0)),
                     ("begin", ("go", 0, "a")), ("begin", ("turn", 0, "")), ("begin", go, ("turn", LAST + 1, "a")),
                     ("put", "p", 0, BIG), ("put", "p", 0, -BIG), ("put", "p", 0), ("get", "p", 0, 0), ("get", "p"),
                     ("put", "P", 0, 0), ("put", "p", LAST + 1, 0), ("put", "p", -1, 0), ("put", "", 0, 0), ("get", "p", -1),
                     ("pass", -1), ("pass", True), ("fall", LAST + 1), ("fall", -1), ("tell", "a b"), ("tell", "abcdefghi"),
                     ("settle", 0), ("go", 0), ("come", 0, "a"), (), ("",), ("put",), "settle", None, (None,), (("settle",),)):
            self.assertIs(is_step(step), False, step)

    def test_values_of_other_kinds(self):
        good = (("put", "p", 0, 0), ("get", "p", 0), ("tell", "p"), ("pass", 0), ("fall", 0), ("begin", ("go", 0)))
        for step, value in itertools.product(good, (*STRANGE, RING)):
            self.assertIs(is_step(value), False)
            for at in range(len(step)):
                other = (*step[:at], value, *step[at + 1:])
                fits = (step[0], at, value) in (("put", 3, -1), ("pass", 1, 10 ** 40))
                self.assertIs(is_step(other), fits, other)
        for at, value in itertools.product(range(3), (*STRANGE, RING)):
            change = ["turn", 0, "a"]
            change[at] = value
            self.assertIs(is_step(("begin", tuple(change))), False)


if __name__ == "__main__":
    unittest.main()
