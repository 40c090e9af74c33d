"""What fallen hosts stop: stayopen/blocked.py, stayopen/falls.py, held against slow walks and all lots of hosts."""

import itertools
import random
import unittest
from fractions import Fraction

from stayopen.bears import bears
from stayopen.blocked import blocked
from stayopen.books import Book
from stayopen.calm import calm
from stayopen.errors import BadBook, BadLots, BadNumber, BadRing, Clashing, NoHost, TooMany
from stayopen.falls import Falls, all_go, bears_falls, chance, shows_falls, stopped
from stayopen.lots import Lots
from stayopen.player import Player
from stayopen.quotas import Quotas
from stayopen.rings import Ring
from stayopen.store import Store
from tests import models
from tests.helpers import STRANGE, Case
from tests.scenes import ask, on_way
from tests.test_lots import NO_LOTS

LAST = 999999999
PLAIN = Book({"": 0})
FOUR = Ring((0, "a"), (10, "a"), (20, "b"), (30, "b"))
NO_PLACES = (*STRANGE, 7, "0", (0,), 0.0)


def slow_copies(book, ring, key):
    hosts = dict(ring)
    walk = sorted(hosts, key=lambda place: (place < key, place))
    taken = models.takes(book.states, book.most, [hosts[place] for place in walk])
    return [place for place, is_taken in zip(walk, taken) if is_taken]


def keys_at(*rings):
    """The keys where a walk of one of the rings begins or ends."""
    places = {place for ring in rings for place, _ in ring}
    return sorted({0, LAST, *places, *[place + 1 for place in places if place < LAST]})


def stretches_model(keys, told):
    """The stretches of rows (key, word) of all keys at which something changes; None is in no stretch."""
    rows = []
    for at, (key, word) in enumerate(told):
        last = keys[at + 1] - 1 if at + 1 < len(keys) else LAST
        if rows and rows[-1][2] == word:
            rows[-1][1] = last
        else:
            rows.append([key, last, word])
    return [tuple(row) for row in rows if row[2] is not None]


def drawn_ring(made):
    places = made.sample((0, 1, 5, 10, 20, 30, 40, 41, LAST - 1, LAST), made.randint(0, 7))
    return Ring(*[(place, made.choice("abc")) for place in places])


def drawn_book(made):
    return made.choice((PLAIN, Book({"": 0}, most=1), Book({"": 0}, most=2), Book({"": 0}, most=5), Book({}),
                        Book({"a": 1, "b": 2}, {"b": 3}, {"a": 3}, {}, most=2), models.random_book(made.randint(0, 500)),
                        Quotas((1, ("a",)), (2, ("a", "b")), most=3).as_book()))


def drawn_lots(made):
    return Lots(*[made.choice((1, 1, 2, 2, 3, 4)) for _ in range(3)], made.choice((None, 0, 0, 1, 2, 4)))


def lowest(share):
    return (share.numerator, share.denominator)


class Blocked(Case):
    def test_drawn_rings(self):
        words = []
        for seed in range(500):
            made = random.Random(seed)
            book, one, other, lots = drawn_book(made), drawn_ring(made), drawn_ring(made), drawn_lots(made)
            if seed % 2 and len(one):
                other = one - made.choice(sorted(dict(one)))
            places = sorted({*dict(one), *dict(other)})
            fallen = made.choices(places, k=made.randint(0, 4)) if places else []
            keys, told = keys_at(one, other), []
            for key in keys:
                ahead, behind = slow_copies(book, one, key), slow_copies(book, other, key)
                word = None
                if set(ahead) != set(behind) and len(set(behind) - set(fallen)) < lots.sweep:
                    word = "sweep"
                if len(set(ahead) & set(fallen)) > lots.spare:
                    word = "shut"
                told.append((key, word))
            wanted = tuple(stretches_model(keys, told))
            self.assertSame(blocked(book, one, other, lots, *fallen), wanted)
            words += [row[2] for row in wanted]
        self.assertGreater(min(words.count("shut"), words.count("sweep")), 100)

    def test_stretches_at_both_ends_stay_two(self):
        ring = Ring((5, "a"), (9, "a"), (12, "a"))
        told = blocked(Book({"": 0}, most=1), ring, ring - 5, Lots(1, 2), 12)
        self.assertSame(told, ((0, 5, "sweep"), (10, 12, "shut"), (13, LAST, "sweep")))
        self.assertSame(blocked(PLAIN, Ring(), Ring((0, "a")), Lots(1, 1)), ())
        self.assertSame(blocked(PLAIN, Ring(), Ring((0, "a")), Lots(1, 2), 0, 0), ((0, LAST, "sweep"),))

    def test_plays(self):
        """The fact: some steps without begin settle the epoch 1 just as the stretches tell."""
        counts = {True: 0, False: 0}
        for seed in range(160):
            made = random.Random(seed)
            book, one = drawn_book(made), drawn_ring(made)
            lots = Lots(made.randint(1, 2), made.randint(1, 3), made.randint(1, 3), 0)
            lots = Lots(lots.read, lots.keep, lots.sweep, made.randint(0, lots.keep - 1))
            player = Player(Store(one, book, lots, changes=3))
            keys = [key for key in (0, 7, 25, LAST) if len(slow_copies(book, one, key)) >= max(lots.read, lots.keep)]
            for key in keys:
                ask(player, "put", "p", key, 1)
            other = drawn_ring(made)
            changes = list(one.changes_to(other))[:3]
            if not changes or not player.attempt(("begin", *changes)):
                continue
            other = player.ring_of(1)
            places = sorted({*dict(one), *dict(other)})
            fallen = made.sample(places, made.randint(0, min(3, len(places))))
            player.run(*[("fall", place) for place in fallen])
            told = blocked(book, one, other, lots, *fallen)
            wanted = not any(word == "shut" or any(first <= key <= last for key in keys) for first, last, word in told)
            for _ in range(3):
                player.run(*calm(player).steps)
                player.step(("settle",))
            self.assertIs(player.is_settled, wanted)
            counts[wanted] += 1
        self.assertGreater(min(counts.values()), 30)

    def test_errors(self):
        for value in (*STRANGE, Quotas(most=2)):
            self.assertRaisesJust(BadBook("book"), blocked, value, None, None, None, None)
        for value in (*STRANGE, [(0, "a")], ((0, "a"),)):
            self.assertRaisesJust(BadRing("one"), blocked, PLAIN, value, None, None, None)
            self.assertRaisesJust(BadRing("other"), blocked, PLAIN, FOUR, value, None, None)
        for value in (*NO_LOTS, (2, 3, 3, 1)):
            self.assertRaisesJust(BadLots("lots"), blocked, PLAIN, FOUR, FOUR, value, None)
        for value in NO_PLACES:
            self.assertRaisesJust(NoHost(value), blocked, PLAIN, FOUR, FOUR - 10, Lots(2, 3), 10, value, None)
        # A host of either ring can fall.
        self.assertSame(blocked(PLAIN, FOUR - 10, FOUR, Lots(2, 3), 10), ((0, 10, "sweep"), (21, LAST, "sweep")))
        self.assertSame(blocked(lots=Lots(2, 3), other=FOUR, one=FOUR, book=PLAIN), ())


class Stopped(Case):
    def test_drawn_rings(self):
        seen = 0
        for seed in range(600):
            made = random.Random(seed)
            book, ring, lots = drawn_book(made), drawn_ring(made), drawn_lots(made)
            fallen = made.choices(sorted(dict(ring)), k=made.randint(0, 4)) if len(ring) else []
            need, keys = max(lots.read, lots.keep), keys_at(ring)
            told = [(key, True if len(set(slow_copies(book, ring, key)) - set(fallen)) < need else None) for key in keys]
            wanted = tuple((first, last) for first, last, _ in stretches_model(keys, told))
            self.assertSame(stopped(book, ring, lots, *fallen), wanted)
            seen += wanted not in ((), ((0, LAST),))
        self.assertGreater(seen, 40)

    def test_ends_of_the_keys(self):
        ring = Ring((0, "a"), (LAST, "a"), (7, "a"))
        one = Book({"": 0}, most=1)
        self.assertSame(stopped(one, ring, Lots(1, 1), LAST), ((8, LAST),))
        self.assertSame(stopped(one, ring, Lots(1, 1), 0), ((0, 0),))
        self.assertSame(stopped(one, ring, Lots(1, 1), 0, 0, LAST), ((0, 0), (8, LAST)))
        self.assertSame(stopped(one, ring, Lots(2, 1)), ((0, LAST),))
        self.assertSame(stopped(one, Ring(), Lots(1, 1)), ((0, LAST),))

    def test_errors(self):
        for work in (stopped, bears_falls, lambda *told: shows_falls(*told[:3], None),
                     lambda *told: chance(*told[:3], None, None), lambda *told: all_go(*told[:3], None)):
            for value in (*STRANGE, Quotas(most=2)):
                self.assertRaisesJust(BadBook("book"), work, value, None, None)
            for value in (*STRANGE, [(0, "a")]):
                self.assertRaisesJust(BadRing("ring"), work, PLAIN, value, None)
            for value in (*NO_LOTS, (2, 3, 3, 1)):
                self.assertRaisesJust(BadLots("lots"), work, PLAIN, FOUR, value)
        for value in NO_PLACES:
            self.assertRaisesJust(NoHost(value), stopped, PLAIN, FOUR, Lots(2, 3), 10, value, None)


class HowManyFalls(Case):
    def test_all_lots_of_hosts(self):
        numbers = set()
        for seed in range(300):
            made = random.Random(seed)
            book, ring, lots = drawn_book(made), drawn_ring(made), drawn_lots(made)
            need, keys = max(lots.read, lots.keep), keys_at(ring)
            walks = {key: slow_copies(book, ring, key) for key in keys}
            many = -1
            while many < len(ring) and all(len(set(walk) - set(fallen)) >= need for walk in walks.values()
                                           for fallen in itertools.combinations(sorted(dict(ring)), many + 1)):
                many += 1
            told = bears_falls(book, ring, lots)
            fewest = min(map(len, walks.values()))
            key = min(key for key in keys if len(walks[key]) == fewest)
            self.assertSame(vars(told), {"many": many, "places": tuple(walks[key][:many + 1]), "key": key})
            self.assertIs(shows_falls(book, ring, lots, told), True)
            numbers.add(many)
            self.look_at_others(book, ring, lots, walks, many, need)
        self.assertGreaterEqual(numbers, {-1, 0, 1, 2})

    def look_at_others(self, book, ring, lots, walks, many, need):
        for key, walk in walks.items():
            for number in (many - 1, many, many + 1):
                for places in itertools.permutations(sorted(dict(ring))[:4], max(many + 1, 0)):
                    wanted = number == many and set(places) <= set(walk) and len(walk) - len(places) < need
                    self.assertIs(shows_falls(book, ring, lots, Falls(number, places, key)), wanted)

    def test_the_looker(self):
        lots = Lots(2, 2)
        self.assertSame(bears_falls(PLAIN, FOUR, lots).many, 1)
        for value in (Falls(1, (0, 10), 0), Falls(1, (10, 0), 0), Falls(1, (30, 20), 20), Falls(1, (30, 0), 7)):
            self.assertIs(shows_falls(PLAIN, FOUR, lots, value), value.places != (30, 0))
        for places in ([0, 10], (0,), (0, 0), (0, 10, 20), (0, 30), (False, 10), ("0", 10), None, 0, ((0, 10),)):
            self.assertIs(shows_falls(PLAIN, FOUR, lots, Falls(1, places, 0)), False)
        for value in (*STRANGE, FOUR, Falls):
            self.assertIs(shows_falls(PLAIN, FOUR, lots, value), False)
            for part in ("many", "places", "key"):
                told = {"many": 1, "places": (0, 10), "key": 0, part: value}
                self.assertIs(shows_falls(PLAIN, FOUR, lots, Falls(**told)), False)
        self.assertIs(shows_falls(PLAIN, FOUR, lots, Falls(1, (0, 10), False)), False)
        self.assertIs(shows_falls(PLAIN, FOUR, lots, Falls(1, (0, 10), LAST + 1)), False)
        # None have to fall where there are too few copies in any case.
        self.assertIs(shows_falls(PLAIN, FOUR, Lots(4, 1), Falls(-1, (), 555)), True)
        self.assertIs(shows_falls(PLAIN, FOUR, Lots(4, 1), Falls(-1, (0,), 555)), False)
        # A key with enough copies is not stopped.
        book = Book({"a": 0}, most=3)
        self.assertTrue(bears_falls(book, Ring(), lots) == Falls(-1, (), 0))

    def test_plain_books(self):
        for most, hosts in itertools.product(range(1, 6), range(0, 8)):
            ring = Ring(*[(7 * at, "ab"[at % 2]) for at in range(hosts)])
            for need in range(1, 6):
                told = bears_falls(Book({"": 0}, most=most), ring, Lots(need, 1)).many
                self.assertSame(told, max(-1, min(most, hosts) - need))
        # So with f falls and one change at a time some lots go on just if most is at least 2 f + 2.
        for most, falls in itertools.product(range(1, 6), range(3)):
            book, ring = Book({"": 0}, most=most), Ring(*[(at, "a") for at in range(8)])
            numbers = list(itertools.product(range(1, 6), range(1, 6)))
            goes_on = [pair for pair in numbers if bears_falls(book, ring, Lots(*pair)).many >= falls]
            self.assertIs(any(bears(book, *pair) for pair in goes_on), most >= 2 * falls + 2)
            self.assertIs(any(sum(pair) > most for pair in goes_on), most >= 2 * falls + 1)


class Chances(Case):
    def test_all_lots_of_hosts(self):
        seen = set()
        for seed in range(200):
            made = random.Random(seed)
            book, ring, lots = drawn_book(made), drawn_ring(made), drawn_lots(made)
            need, keys = max(lots.read, lots.keep), keys_at(ring)
            walks = {key: set(slow_copies(book, ring, key)) for key in keys}
            for many in range(len(ring) + 1):
                fallen = [set(told) for told in itertools.combinations(sorted(dict(ring)), many)]
                for key in (0, 25, LAST):
                    walk = set(slow_copies(book, ring, key))
                    share = Fraction(sum(len(walk - told) < need for told in fallen), len(fallen))
                    self.assertSame(chance(book, ring, lots, key, many), lowest(share))
                    seen.add(lowest(share))
                good = sum(all(len(walk - told) >= need for walk in walks.values()) for told in fallen)
                self.assertSame(all_go(book, ring, lots, many), lowest(Fraction(good, len(fallen))))
                seen.add(lowest(Fraction(good, len(fallen))))
        self.assertGreater(len(seen), 15)

    def test_many_hosts(self):
        ring = Ring(*[(at * 1000, "a") for at in range(100)])
        self.assertSame(all_go(PLAIN, ring, Lots(1, 1), 2), (1, 1))
        # Of three copies in a row one may fall: 4,950 pairs less 100 neighbours and 100 next but one.
        self.assertSame(all_go(PLAIN, ring, Lots(2, 2), 2), lowest(Fraction(4750, 4950)))
        self.assertSame([all_go(PLAIN, ring, Lots(1, 1), many) for many in (98, 99, 100)], [(0, 1)] * 3)
        few = Ring(*[(at * 1000, "a" if at < 3 else "b") for at in range(100)])
        self.assertSame(all_go(Book({"a": 0}), few, Lots(1, 1), 98), lowest(Fraction(4950 - 97 * 96 // 2, 4950)))
        self.assertSame(chance(PLAIN, ring, Lots(3, 3), 0, 50), lowest(1 - Fraction(50 * 49 * 48, 100 * 99 * 98)))

    def test_five_thousand_lots(self):
        for many, most in ((2, 100), (1, 100), (0, 100), (100, 100), (3, 32), (29, 32), (4, 20), (7, 14)):
            ring = Ring(*[(at, "a") for at in range(most)])
            self.assertSame(all_go(Book({"": 0}, most=1), ring, Lots(1, 1), many), (0, 1) if many else (1, 1))
        for many, most in ((6, 15), (9, 15), (3, 33), (97, 100), (3, 100), (4, 21), (50, 100)):
            ring = Ring(*[(at, "a") for at in range(most)])
            self.assertRaisesJust(TooMany("lots", 5000), all_go, PLAIN, ring, Lots(1, 1), many)
        # There are 4,960 lots of 3 of 32 hosts, and 5,005 of 6 of 15; no numbers have just 5,000 or 5,001.
        self.assertSame(all_go(PLAIN, Ring(), Lots(1, 1), 0), (0, 1))

    def test_errors(self):
        for value in (*STRANGE, LAST + 1, "0", (0,)):
            self.assertRaisesJust(BadNumber(value), chance, PLAIN, FOUR, Lots(2, 2), value, None)
        for value in (*STRANGE, 5, "0", (0,)):
            self.assertRaisesJust(BadNumber(value), chance, PLAIN, FOUR, Lots(2, 2), 0, value)
            self.assertRaisesJust(BadNumber(value), all_go, PLAIN, FOUR, Lots(2, 2), value)
        self.assertRaisesJust(BadNumber(101), all_go, PLAIN, Ring(*[(at, "a") for at in range(100)]), Lots(2, 2), 101)


class Weather(Case):
    def test_letters_of_a_stopped_key(self):
        """What falls tell is so in a play: the asks of stopped keys are those that cannot end."""
        player = Player(Store(FOUR, PLAIN, Lots(2, 2)))
        player.run(("fall", 10), ("fall", 20), ("put", "p", 5, 1), ("put", "q", 15, 1), ("put", "r", 25, 1))
        self.assertSame(stopped(PLAIN, FOUR, Lots(2, 2), 10, 20), ((0, 10), (31, LAST)))
        player.run(*calm(player).steps)
        self.assertSame([player.history(key)[0].ended is None for key in (5, 15, 25)], [True, False, False])
        self.assertSame(on_way(player), [])
        self.assertRaisesJust(Clashing("fallen"), player.step, ("fall", 10))


if __name__ == "__main__":
    unittest.main()
