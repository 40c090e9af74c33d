"""Nested quotas: stayopen/nested.py."""

import itertools
import random
import unittest

from stayopen.books import Book
from stayopen.errors import BadChange, BadName, BadNumber, BadQuota, BadRing, Clashing, TooMany
from stayopen.nested import Exchange, exchange, is_nested, most_taken, room
from stayopen.quotas import Quotas
from stayopen.rings import Ring
from stayopen.walks import walk
from tests.helpers import STRANGE, Case
from tests.test_quotas import EIGHT, holds, random_quotas

LAST = 999999999
CROSS = Quotas((1, ("a", "b")), (1, ("b", "c")), most=2)
# Of 8 lots so many counts come up that their book would have more than 64 states.
MANY = Quotas(*[(1 + at % 2, (name,)) for at, name in enumerate("abcdef")], (3, ("a", "b", "c")), (5, EIGHT), most=5)


def some_quotas():
    return [random_quotas(seed) for seed in range(120)] + [random_quotas(seed, ("a", "b")) for seed in range(120)]


def some_nested():
    return [quotas for quotas in some_quotas() if is_nested(quotas)]


def copies_by(quotas, ring, key):
    hosts = list(walk(ring, key))
    taken = quotas.takes(*[name for _, name in hosts])
    return [place for (place, _), is_taken in zip(hosts, taken) if is_taken]


class Nested(Case):
    def test_is_nested(self):
        for quotas in some_quotas():
            # z and y stand for the classes that no pair names.
            lots = [{name for name in "abcyz" if holds(quotas.pairs, words, name)} for _, words in quotas.pairs]
            wanted = all(one <= other or other <= one or not one & other for one in lots for other in lots)
            self.assertIs(is_nested(quotas), wanted, str(quotas))

    def test_ordinary_quotas(self):
        for pairs, wanted in (
            ((), True), (((1, ("a",)),), True), (((1, ("a",)), (2, ("b",))), True), (((1, ("a",)), (2, ("a",))), True),
            (((1, ("",)), (2, ("a",))), True), (((1, ("", "a")), (2, ("",))), True),
            (((1, ("", "a")), (2, ("a", "b"))), False), (((0, ("a", "b")), (5, ("b", "c"))), False),
            (((1, ("a", "b")), (2, ("c",)), (1, ("b", "c"))), False),
        ):
            self.assertIs(is_nested(Quotas(*pairs)), wanted, pairs)

    def test_most_taken_and_room(self):
        hosts = ["a", "a", "b", "b", "c", "z", "y"]
        for quotas in some_nested():
            greatest = 0
            for many in range(1, quotas.most + 1):
                for told in itertools.combinations(hosts, many):
                    if all(sum(holds(quotas.pairs, words, name) for name in told) <= number
                           for number, words in quotas.pairs):
                        greatest = many
            self.assertEqual(most_taken(quotas, *hosts), greatest, str(quotas))
            self.assertEqual(room(quotas), quotas.as_book().room)

    def test_each_order_takes_as_many(self):
        for quotas in some_nested()[:60]:
            for told in itertools.product(["a", "b", "c", "z"], repeat=4):
                many = most_taken(quotas, *told)
                self.assertEqual(many, sum(quotas.takes(*told)))
                self.assertEqual(many, most_taken(quotas, *sorted(told)))

    def test_quotas_whose_book_has_too_many_states(self):
        self.assertRaisesJust(TooMany("states", 64), MANY.as_book)
        self.assertSame([is_nested(MANY), room(MANY)], [True, 5])
        self.assertSame([most_taken(MANY, "a", "a", "b", "b", "b", "c", "z"), most_taken(MANY)], [4, 0])
        told = exchange(MANY, Ring((1, "a"), (2, "a"), (3, "b"), (4, "z")), ("go", 1), 0)
        self.assertTrue(told == Exchange(1, 2, (3, 4)))

    def test_any_number_of_names(self):
        names = ["b"] * 1500 + ["z"] * 1500
        self.assertEqual(most_taken(Quotas((2, ("b",)), most=5), *names), 5)
        self.assertEqual(most_taken(Quotas((2, ("b",)), most=5), *names[:1500]), 2)

    def test_sums_are_books_of_both(self):
        for one, other in itertools.product(some_nested()[:12], repeat=2):
            self.assertEqual((one + other).as_book(), one.as_book() & other.as_book())


class Exchanges(Case):
    def test_exchange(self):
        for seed, quotas in enumerate(some_nested()):
            made = random.Random(seed)
            ring = Ring(*[(10 * k, made.choice("abcz")) for k in range(made.randint(0, 6))])
            changes = [("come", 10 * k + 5, made.choice("abcz")) for k in range(6)]
            changes += [("go", place) for place, _ in ring]
            changes += [("turn", place, name) for place, had in ring for name in "abcz" if name != had]
            for change in changes:
                key = made.choice((0, 5, 17, 30, LAST))
                ahead, behind = copies_by(quotas, ring, key), copies_by(quotas, ring.changed(change), key)
                told = exchange(quotas, ring, change, key)
                self.assertSame([*ahead], [place for place in ahead if place in told.kept or place == told.gone])
                self.assertSame(told.kept, tuple(sorted(set(ahead) & set(behind))))
                self.assertEqual({told.gone} - {None}, set(ahead) - set(behind))
                self.assertEqual({told.new} - {None}, set(behind) - set(ahead))
                self.check_facts(quotas, ring, change, key, told)

    def check_facts(self, quotas, ring, change, key, told):
        """Which host comes for one that goes, and which one goes for one that comes."""
        hosts = list(walk(ring, key))
        classes = dict(ring)
        if change[0] == "go" and told.gone == change[1]:
            ahead = copies_by(quotas, ring, key)
            passed = [place for place, _ in hosts if place not in ahead]
            fits = [place for place in passed if all(quotas.takes(*[classes[one] for one in (*told.kept, place)]))]
            self.assertEqual(told.new, fits[0] if fits else None)
        elif change[0] == "go":
            self.assertEqual((told.gone, told.new), (None, None))
        elif change[0] == "come" and told.new == change[1]:
            classes[change[1]] = change[2]
            ahead = copies_by(quotas, ring, key)
            if all(quotas.takes(*[classes[one] for one in (change[1], *ahead)])):
                self.assertIsNone(told.gone)
            else:
                fits = [place for place in ahead
                        if all(quotas.takes(*[classes[one] for one in (change[1], *ahead) if one != place]))]
                self.assertEqual(told.gone, fits[-1])
        elif change[0] == "come":
            self.assertEqual((told.gone, told.new), (None, None))

    def test_places_and_keys_at_the_ends(self):
        quotas, ring = Quotas(most=1), Ring((0, "a"), (LAST, "b"))
        self.assertTrue(exchange(quotas, ring, ("go", LAST), LAST) == Exchange(LAST, 0, ()))
        self.assertTrue(exchange(quotas, ring, ("go", 0), 0) == Exchange(0, LAST, ()))
        self.assertTrue(exchange(quotas, Ring(), ("come", 0, "a"), LAST) == Exchange(None, 0, ()))
        self.assertTrue(exchange(key=0, change=("turn", 0, "z"), ring=ring, quotas=quotas) == Exchange(None, None, (0,)))

    def test_papers(self):
        value = [1, [2]]
        paper = Exchange(value, new={"a": value}, kept=None)
        value[1].append(3)
        self.assertSame([paper.gone, paper.new, paper.kept], [[1, [2]], {"a": [1, [2]]}, None])
        self.assertTrue(paper)
        self.assertTrue(paper == Exchange([1, [2]], {"a": [1, [2]]}, None))
        self.assertTrue(paper != Exchange([1, [2]], {"a": [1, [2]]}, ()))
        self.assertFalse(paper == None)  # noqa: E711


class Errors(Case):
    def test_no_quotas(self):
        for value in (*STRANGE, Book({}), "3 : -"):
            self.assertRaisesJust(BadQuota("quotas"), is_nested, value)
            self.assertRaisesJust(BadQuota("quotas"), room, value)
            self.assertRaisesJust(BadQuota("quotas"), most_taken, value, "A")
            self.assertRaisesJust(BadQuota("quotas"), exchange, value, None, None, None)

    def test_not_nested(self):
        ring = Ring((0, "a"))
        self.assertRaisesJust(Clashing("nested"), room, CROSS)
        self.assertRaisesJust(Clashing("nested"), most_taken, CROSS)
        self.assertRaisesJust(Clashing("nested"), exchange, CROSS, ring, ("go", 0), 0)
        for value in STRANGE:
            self.assertRaisesJust(BadName(value), most_taken, CROSS, "a", value, "B")

    def test_errors_of_exchange_in_their_order(self):
        full = Ring(*[(k, "a") for k in range(100)])
        for value in STRANGE:
            self.assertRaisesJust(BadRing("ring"), exchange, CROSS, value, None, None)
            self.assertRaisesJust(BadChange(value), exchange, CROSS, full, value, None)
            if not isinstance(value, int) or value in (True, -1, 10 ** 40):
                self.assertRaisesJust(BadNumber(value), exchange, CROSS, full, ("go", 1), value)
        self.assertRaisesJust(BadNumber(LAST + 1), exchange, CROSS, full, ("go", 1), LAST + 1)
        self.assertRaisesJust(BadChange(("turn", 5, "a")), exchange, CROSS, full, ("turn", 5, "a"), -1)
        self.assertRaisesJust(TooMany("hosts", 100), exchange, CROSS, full, ("come", 100, "a"), -1)


if __name__ == "__main__":
    unittest.main()
