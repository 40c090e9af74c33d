"""Placing and its looker: stayopen/placing.py, stayopen/look_placing.py."""

import itertools
import random
import unittest

from stayopen.arcs import loads
from stayopen.books import Book
from stayopen.errors import BadBook, BadName, BadRing, TooMany
from stayopen.look_placing import shows_best
from stayopen.placing import Best, best_place
from stayopen.rings import Ring
from tests import models
from tests.helpers import STRANGE, Case, same

LAST = 999999999


def gaps_in(ring):
    """The stretches of places without a host."""
    told, first = [], 0
    for place, _ in ring:
        told.append((first, place - 1))
        first = place + 1
    return [gap for gap in [*told, (first, LAST)] if gap[0] <= gap[1]]


def height_at(book, ring, place, name):
    return max(loads(book, ring + (place, name)).values())


def loads_at(book, ring, place, name):
    """The loads with the newcomer, which is told as None."""
    told = loads(book, ring + (place, name))
    return {None if host == place else host: load for host, load in told.items()}


def lowest_in(book, ring, name, gap):
    """The least height over a gap and the least place for it, by halving: heights are convex."""
    low, high = gap
    while low < high:
        middle = (low + high) // 2
        if height_at(book, ring, middle, name) > height_at(book, ring, middle + 1, name):
            low = middle + 1
        else:
            high = middle
    height = height_at(book, ring, low, name)
    # A stretch of equal heights can only be at the bottom; its first place is the least.
    left, right = gap[0], low
    while left < right:
        middle = (left + right) // 2
        if height_at(book, ring, middle, name) == height:
            right = middle
        else:
            left = middle + 1
    return (height, right)


def some_cases():
    cases = []
    for seed in range(40):
        made = random.Random(seed)
        places = made.sample(range(0, 40), made.randint(0, 5))
        if seed % 2:
            places = [place * 24999999 + made.randint(0, 9) for place in places]
        if seed % 5 == 0:
            places = sorted({*places, 0, LAST})
        ring = Ring(*[(place, made.choice("abc")) for place in places])
        book = models.random_book(seed) if seed % 3 else Book({"": 0}, most=1 + seed % 4)
        cases.append((book, ring, made.choice("abcd")))
    return cases


def right_hosts(book, ring, name, gap, height):
    """All right tuples of hosts for the floor of a gap."""
    ahead, behind = loads_at(book, ring, gap[0], name), loads_at(book, ring, gap[1], name)
    hosts = [*[place for place, _ in ring], None]
    told = [(host,) for host in hosts if min(ahead[host], behind[host]) >= height]
    for pair in itertools.combinations(hosts, 2):
        if min(ahead[pair[0]] + ahead[pair[1]], behind[pair[0]] + behind[pair[1]]) >= 2 * height - 1:
            told.append(pair)
    return told


class Placing(Case):
    def test_best_places(self):
        for book, ring, name in some_cases():
            told = best_place(book, ring, name)
            height, place = min(lowest_in(book, ring, name, gap) for gap in gaps_in(ring))
            self.assertSame([told.place, told.height], [place, height])
            self.assertSame(tuple(floor[:2] for floor in told.floors), tuple(gaps_in(ring)))
            for first, last, hosts in told.floors:
                self.assertIn(hosts, right_hosts(book, ring, name, (first, last), height))
            self.assertIs(shows_best(book, ring, name, told), True)

    def test_every_place_of_small_gaps(self):
        # All places up to 12 stand free or not; behind them one host that takes nothing.
        for seed in range(12):
            made = random.Random(seed)
            book = models.random_book(seed + 77)
            filled = [(place, made.choice("ab")) for place in range(12) if made.random() < 0.4]
            ring = Ring(*filled, *[(LAST - at, "b") for at in range(3)])
            told = best_place(book, ring, "a")
            for place in range(12):
                if place not in ring:
                    height = height_at(book, ring, place, "a")
                    self.assertGreaterEqual(height, told.height)
                    if height == told.height:
                        self.assertLessEqual(told.place, place)

    def test_no_hosts_and_one(self):
        self.assertTrue(best_place(Book({"": 0}), Ring(), "a") == Best(0, 10 ** 9, ((0, LAST, (None,)),)))
        self.assertTrue(best_place(Book({}), Ring(), "a") == Best(0, 0, ((0, LAST, (None,)),)))
        told = best_place(Book({"": 0}, most=1), Ring((LAST, "a")), "b")
        self.assertSame([told.place, told.height], [499999999, 500000000])
        self.assertSame(told.floors, ((0, LAST - 1, (LAST, None)),))

    def test_gaps_of_one_place_at_the_ends(self):
        # Only 0 and 999999999 are free beside what two hosts leave of all places.
        ring = Ring((1, "a"), (LAST - 1, "a"))
        told = best_place(Book({"": 0}, most=1), ring, "a")
        self.assertSame([floor[:2] for floor in told.floors], [(0, 0), (2, LAST - 2), (LAST, LAST)])
        self.assertIs(shows_best(Book({"": 0}, most=1), ring, "a", told), True)
        self.assertSame([floor[:2] for floor in best_place(Book({}), Ring((0, "a"), (LAST, "a")), "a").floors],
                        [(1, LAST - 1)])

    def test_a_passed_newcomer(self):
        told = best_place(Book({"a": 0}, most=1), Ring((0, "a")), "b")
        self.assertTrue(told == Best(1, 10 ** 9, ((1, LAST, (0,)),)))

    def test_odd_sums_are_rounded_up(self):
        # Of the keys 1 to 999999999, which 0 has all without it, the newcomer takes the half.
        one = Book({"": 0}, most=1)
        ring = Ring((0, "a"), (2, "b"))
        told = best_place(one, ring, "c")
        keys = 10 ** 9 - 2
        self.assertSame(told.height, (keys + 1) // 2)
        self.assertSame(told.place, 2 + keys // 2)
        odd = best_place(one, Ring((0, "a"), (3, "b")), "c")
        self.assertSame([odd.height, odd.place], [(10 ** 9 - 3 + 1) // 2, 3 + (10 ** 9 - 3) // 2])

    def test_thirty_hosts_and_one_more(self):
        ring = Ring(*[(33333333 * k, "a") for k in range(30)])
        book = Book({"": 0})
        self.assertIs(shows_best(book, ring, "a", best_place(book, ring, "a")), True)
        for work in (best_place, lambda *told: shows_best(*told, None)):
            self.assertRaisesJust(TooMany("hosts", 30), work, book, ring + (7, "a"), "a")

    def test_errors(self):
        book, ring = Book({}), Ring()
        full = Ring(*[(k, "a") for k in range(31)])
        for work in (best_place, lambda *told: shows_best(*told, None)):
            for value in STRANGE:
                self.assertRaisesJust(BadBook("book"), work, value, value, value)
                self.assertRaisesJust(BadRing("ring"), work, book, value, value)
                self.assertRaisesJust(BadName(value), work, book, ring, value)
                self.assertRaisesJust(BadName(value), work, book, full, value)
        self.assertEqual(best_place(name="a", ring=ring, book=book).place, 0)
        self.assertIs(shows_best(value=None, name="a", ring=ring, book=book), False)


class Looking(Case):
    def test_any_right_floors(self):
        for book, ring, name in some_cases():
            told = best_place(book, ring, name)
            for at, (first, last, _) in enumerate(told.floors):
                right = right_hosts(book, ring, name, (first, last), told.height)
                places = [place for place, _ in ring]
                for hosts in (*[(host,) for host in [*places, None]], *itertools.combinations([*places, None], 2)):
                    floors = (*told.floors[:at], (first, last, hosts), *told.floors[at + 1:])
                    self.assertIs(shows_best(book, ring, name, Best(told.place, told.height, floors)), hosts in right)

    def test_other_places_and_heights(self):
        book, ring = Book({"": 0}, most=1), Ring((0, "a"))
        told = best_place(book, ring, "b")
        for place in (told.place - 1, told.place + 1, 0, -1, LAST, None, str(told.place), (told.place,)):
            self.assertIs(shows_best(book, ring, "b", Best(place, told.height, told.floors)), False)
        for height in (told.height - 1, told.height + 1, None, str(told.height)):
            self.assertIs(shows_best(book, ring, "b", Best(told.place, height, told.floors)), False)
        # Kinds count: the place 0 is not False, the place 1 is not True.
        empty = best_place(book, Ring(), "a")
        self.assertFalse(shows_best(book, Ring(), "a", Best(False, empty.height, empty.floors)))
        nothing = best_place(Book({}), ring, "a")
        self.assertSame([nothing.place, nothing.height], [1, 0])
        self.assertFalse(shows_best(Book({}), ring, "a", Best(True, 0, nothing.floors)))
        self.assertFalse(shows_best(Book({}), ring, "a", Best(1, False, nothing.floors)))

    def test_floors_otherwise(self):
        book, ring, name = Book({"": 0}, most=2), Ring((0, "a"), (1, "b"), (5, "a"), (LAST, "b")), "c"
        told = best_place(book, ring, name)
        floors = told.floors
        self.assertSame([floor[:2] for floor in floors], [(2, 4), (6, LAST - 1)])
        wrong = [floors[:1], floors[1:], (), floors[::-1], list(floors), (*floors, floors[-1]), (None, floors[1])]
        first, last, hosts = floors[1]
        for other in (list(hosts), (), hosts * 2, hosts + (None,), (None, 0), (5, 0), (0, 1, 5), (0, 1, None), (0, 1, 5, LAST, None), (0, 0), (None, None), (7,), (0, 7),
                      (True,), (False, 5), (0, "5"), ("0",), ((0,),), ([0],), None, 0):
            wrong.append((floors[0], (first, last, other)))
        for triple in ((first, last), [first, last, hosts], (first, last, hosts, 0), (first + 1, last, hosts),
                       (first, last - 1, hosts), (str(first), last, hosts)):
            wrong.append((floors[0], triple))
        for other in wrong:
            self.assertIs(shows_best(book, ring, name, Best(told.place, told.height, other)), False, other)
        self.assertTrue(shows_best(book, ring, name, told))

    def test_one_or_two_hosts(self):
        # All hosts are copies of all keys: each of them is a floor, and each two are.
        book, ring = Book({"": 0}, most=5), Ring((0, "a"), (4, "a"), (7, "a"))
        told = best_place(book, ring, "a")
        self.assertSame([told.place, told.height], [1, 10 ** 9])
        for hosts, wanted in (((0,), True), ((None,), True), ((0, 4), True), ((7, None), True), ((4, 0), False),
                              ((0, 4, 7), False), ((0, 4, None), False), ((0, 4, 7, None), False)):
            floors = ((1, 3, hosts), *told.floors[1:])
            self.assertIs(shows_best(book, ring, "a", Best(1, 10 ** 9, floors)), wanted)

    def test_strange_values(self):
        book, ring = Book({"": 0}, most=1), Ring((0, "a"))
        told = best_place(book, ring, "b")
        for value in (*STRANGE, book, ring, Best, told.floors):
            self.assertIs(shows_best(book, ring, "b", value), False)
            for paper in (Best(value, told.height, told.floors), Best(told.place, value, told.floors),
                          Best(told.place, told.height, value), Best(told.place, told.height, (value,)),
                          Best(told.place, told.height, ((1, LAST, value),)),
                          Best(told.place, told.height, ((1, LAST, (value,)),)),
                          Best(told.place, told.height, ((1, LAST, (0, value)),)),
                          Best(told.place, told.height, ((value, LAST, (0, None)),))):
                wanted = same(vars(paper), vars(told))
                self.assertIs(shows_best(book, ring, "b", paper), wanted)

    def test_papers(self):
        value = [[1, {"a": [2]}]]
        paper = Best(value, height=None, floors=value)
        value[0][1]["a"].append(3)
        self.assertSame([paper.place, paper.height, paper.floors], [[[1, {"a": [2]}]], None, [[1, {"a": [2]}]]])
        self.assertTrue(paper)
        self.assertTrue(paper == Best([[1, {"a": [2]}]], None, [[1, {"a": [2]}]]))
        self.assertTrue(paper != Best(None, None, None))
        self.assertFalse(paper == (paper.place, paper.height, paper.floors))


if __name__ == "__main__":
    unittest.main()
