"""Rings and their changes: stayopen/rings.py."""

import itertools
import unittest

from stayopen.books import Book
from stayopen.errors import BadChange, BadNumber, BadRing, Clashing, NoHost, TooMany
from stayopen.rings import Ring
from tests.helpers import STRANGE, Case

LAST = 999999999
HUNDRED = [(7 * k, "a") for k in range(100)]
NO_HOSTS = (*STRANGE, (1, "A"), (-1, "a"), (LAST + 1, "a"), ("a", 1), [1, "a"], (1, "a", "b"), (True, "a"), (1, None),
            (1, ""), (1, "abcdefghi"), ((1, "a"),), (None, "a"), (10 ** 40, "a"))


class Making(Case):
    def test_hosts(self):
        ring = Ring((5, "b"), (0, "a"), (LAST, "abcdefgh"))
        self.assertSame(list(ring), [(0, "a"), (5, "b"), (LAST, "abcdefgh")])
        self.assertSame([len(ring), len(Ring()), bool(ring), bool(Ring()), list(Ring())], [3, 0, True, True, []])

    def test_values_that_are_no_hosts(self):
        for value in NO_HOSTS:
            self.assertRaisesJust(BadRing(0), Ring, value)
            self.assertRaisesJust(BadRing(2), Ring, (1, "a"), (1, "b"), value, value)
            self.assertRaisesJust(BadRing(1), Ring.of, [(1, "a"), value])

    def test_a_hundred_hosts(self):
        self.assertEqual(len(Ring(*HUNDRED)), 100)
        self.assertRaisesJust(TooMany("hosts", 100), Ring, *HUNDRED, (1, "a"))
        self.assertRaisesJust(TooMany("hosts", 100), Ring, *HUNDRED, (0, "a"))
        self.assertRaisesJust(BadRing(101), Ring, *HUNDRED, (0, "a"), None)

    def test_clashing_places(self):
        self.assertRaisesJust(Clashing("place"), Ring, (1, "a"), (2, "a"), (1, "b"))
        self.assertRaisesJust(Clashing("place"), Ring, (1, "a"), (1, "a"))

    def test_of(self):
        hosts = [(3, "a"), (1, "b")]
        ring = Ring.of(hosts)
        hosts.append((2, "c"))
        self.assertSame(list(ring), [(1, "b"), (3, "a")])
        self.assertEqual(Ring.of(tuple(hosts)), Ring(*hosts))
        self.assertEqual(Ring.of(hosts=[]), Ring())
        for value in (None, True, 1, "", "ab", {}, {1: "a"}, ring, Book({})):
            self.assertRaisesJust(BadRing("hosts"), Ring.of, value)
        self.assertRaisesJust(TooMany("hosts", 100), Ring.of, [*HUNDRED, (1, "a")])
        self.assertRaisesJust(Clashing("place"), Ring.of, [(1, "a"), (1, "a")])


class Reading(Case):
    def test_places(self):
        ring = Ring((0, "a"), (1, "b"), (LAST, "c"))
        for place in (0, 1, LAST):
            self.assertIs(place in ring, True)
        for value in (2, LAST - 1, -1, LAST + 1, *STRANGE, (0, "a"), "0", ring):
            self.assertIs(value in ring, False)
            self.assertRaisesJust(NoHost(value), lambda value=value: ring[value])
            self.assertRaisesJust(NoHost(value), lambda value=value: ring - value)
        self.assertSame([ring[0], ring[1], ring[LAST]], ["a", "b", "c"])

    def test_equality(self):
        ring = Ring((1, "a"), (2, "b"))
        self.assertIs(ring == Ring((2, "b"), (1, "a")), True)
        self.assertIs(ring != Ring((2, "b"), (1, "a")), False)
        for other in (Ring((1, "a")), Ring((1, "b"), (2, "b")), Ring((1, "a"), (3, "b")), Ring(), list(ring),
                      ((1, "a"), (2, "b")), *STRANGE):
            self.assertIs(ring == other, False)
            self.assertIs(ring != other, True)


class Steps(Case):
    def test_one_more_and_one_less(self):
        ring = Ring((1, "a"), (2, "b"))
        self.assertSame(list(ring + (0, "c")), [(0, "c"), (1, "a"), (2, "b")])
        self.assertSame(list(ring - 1), [(2, "b")])
        self.assertSame(list(ring), [(1, "a"), (2, "b")])
        self.assertEqual(ring - 1 - 2, Ring())
        for value in NO_HOSTS:
            self.assertRaisesJust(BadRing("host"), lambda value=value: ring + value)
        self.assertRaisesJust(Clashing("place"), lambda: ring + (2, "b"))
        full = Ring(*HUNDRED)
        self.assertRaisesJust(TooMany("hosts", 100), lambda: full + (1, "a"))
        self.assertRaisesJust(TooMany("hosts", 100), lambda: full + (0, "a"))
        self.assertRaisesJust(BadRing("host"), lambda: full + (0, "A"))
        self.assertEqual(len(full - 0 + (1, "a")), 100)

    def test_turned_round(self):
        ring = Ring((0, "a"), (5, "b"), (LAST, "c"))
        self.assertSame(list(ring >> 1), [(0, "c"), (1, "a"), (6, "b")])
        self.assertSame(list(ring >> -6), [(LAST - 6, "c"), (LAST - 5, "a"), (LAST, "b")])
        for n in (0, LAST + 1, -LAST - 1, 10 ** 40, 7 * (LAST + 1)):
            self.assertEqual(ring >> n, ring >> (n % 10 ** 9))
        self.assertEqual((ring >> (10 ** 40 + 3)) >> (-10 ** 40 - 3), ring)
        self.assertEqual(Ring() >> 5, Ring())
        for value in STRANGE:
            if not isinstance(value, int) or isinstance(value, bool):
                self.assertRaisesJust(BadNumber(value), lambda value=value: ring >> value)
        self.assertRaisesJust(BadNumber(True), lambda: ring >> True)


class Changing(Case):
    def setUp(self):
        self.ring = Ring((0, "a"), (5, "b"), (LAST, "c"))

    def test_changes(self):
        ring = self.ring
        self.assertSame(list(ring.changed(("go", 5))), [(0, "a"), (LAST, "c")])
        self.assertSame(list(ring.changed(("come", 6, "z"))), [(0, "a"), (5, "b"), (6, "z"), (LAST, "c")])
        self.assertSame(list(ring.changed(("turn", 5, "z"))), [(0, "a"), (5, "z"), (LAST, "c")])
        self.assertEqual(ring.changed(), ring)
        self.assertEqual(ring.changed_by([]), ring)
        three = (("go", 0), ("turn", 5, "a"), ("come", 1, "b"))
        for changes in itertools.permutations(three):
            self.assertSame(list(ring.changed(*changes)), [(1, "b"), (5, "a"), (LAST, "c")])
            self.assertEqual(ring.changed_by(list(changes)), ring.changed_by(changes=changes))
        self.assertSame(list(ring), [(0, "a"), (5, "b"), (LAST, "c")])
        self.assertEqual(ring.changed(("go", 0), ("go", 5), ("go", LAST)), Ring())

    def test_values_that_are_no_changes(self):
        for value in (*STRANGE, ("go",), ("go", 5, "b"), ("come", 6), ("come", 6, "Z"), ("come", 6, "z", 1), ("turn", 5),
                      ("turn", 5, ""), ("move", 5), ("go", True), ("go", -1), ("come", LAST + 1, "a"), ["go", 5],
                      ["come", 6, "z"], ("Go", 5), (None, 5), ("go", "5"), (("go", 5),), "go 5", self.ring):
            self.assertRaisesJust(BadChange(value), self.ring.changed, value)
            self.assertRaisesJust(BadChange(value), self.ring.changed, ("go", 5), value, None)
            self.assertRaisesJust(BadChange(value), self.ring.changed_by, [("go", 5), value])

    def test_changes_that_this_ring_does_not_take(self):
        for change in (("come", 5, "z"), ("come", 5, "b"), ("go", 6), ("turn", 6, "a"), ("turn", 5, "b")):
            self.assertRaisesJust(BadChange(change), self.ring.changed, change)
            self.assertRaisesJust(BadChange(change), self.ring.changed, ("go", 0), change, ("go", 0))
        for ahead in (("go", 5), ("turn", 5, "a")):
            for change in (("go", 5), ("turn", 5, "z"), ("come", 5, "z")):
                self.assertRaisesJust(BadChange(change), self.ring.changed, ahead, change)
        self.assertRaisesJust(BadChange(("go", 6)), self.ring.changed, ("come", 6, "a"), ("go", 6))

    def test_changes_in_no_list_or_tuple(self):
        for value in STRANGE:
            if not isinstance(value, (list, tuple)):
                self.assertRaisesJust(BadChange(value), self.ring.changed_by, value)
        self.assertRaisesJust(BadChange("go"), self.ring.changed_by, ("go", 5))
        self.assertRaisesJust(BadChange(self.ring), self.ring.changed_by, self.ring)

    def test_a_hundred_hosts(self):
        full = Ring(*HUNDRED)
        self.assertRaisesJust(TooMany("hosts", 100), full.changed, ("come", 1, "a"))
        self.assertRaisesJust(BadChange(("go", 2)), full.changed, ("come", 1, "a"), ("go", 2))
        self.assertEqual(len(full.changed(("come", 1, "a"), ("go", 0))), 100)

    def test_an_error_keeps_what_the_change_was(self):
        change = ["go", 5]
        try:
            self.ring.changed(change)
        except BadChange as error:
            change.append("b")
            self.assertSame(error.value, ["go", 5])

    def test_changes_to(self):
        other = Ring((0, "a"), (4, "b"), (5, "c"))
        self.assertSame(self.ring.changes_to(other), (("come", 4, "b"), ("turn", 5, "c"), ("go", LAST)))
        self.assertSame(self.ring.changes_to(self.ring), ())
        self.assertSame(Ring().changes_to(Ring((1, "a"))), (("come", 1, "a"),))
        rings = [Ring(*[(3 * at, name) for at, name in enumerate(word) if name != "-"])
                 for word in itertools.product("ab-", repeat=3)]
        for one in rings:
            for two in rings:
                changes = one.changes_to(other=two)
                self.assertEqual(one.changed(*changes), two)
                self.assertEqual(sorted(change[1] for change in changes), [change[1] for change in changes])
                unlike = {place for place, _ in set(one) ^ set(two)}
                self.assertEqual(len(changes), len(unlike))
        for value in (*STRANGE, list(self.ring)):
            self.assertRaisesJust(BadRing("other"), self.ring.changes_to, value)


if __name__ == "__main__":
    unittest.main()
