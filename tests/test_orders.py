"""Orders of the asks of one key, and the looker: stayopen/orders.py, stayopen/look_orders.py, point 11."""

import itertools
import random
import unittest

from stayopen.errors import BadAsk, Clashing, TooMany
from stayopen.histories import Ask, zones
from stayopen.look_orders import shows_order
from stayopen.orders import Order, Quarrel, order_of, surely, tellable
from tests.helpers import STRANGE, Case, same
from tests.test_histories import drawn_asks, parts_model

BOUND = 10 ** 40
# A get that ended ahead of its put; two lots at odds; a history with an order.
EARLY = [Ask("p", "put", 2, 3), Ask("q", "get", 0, 1, 0)]
STALE = [Ask("p", "put", 0, 3), Ask("q", "get", 1, 2, 0), Ask("r", "get", 4, 5)]
FINE = [Ask("p", "put", 0, 9), Ask("q", "put", 1, 8), Ask("r", "get", 2, 3, 1), Ask("r", "get", 4, 5, 0)]


def fits(asks, order):
    """Whether an order of the asks that play a part is one, straight from the document."""
    last = None
    for place, at in enumerate(order):
        if any(asks[at].ended is not None and asks[at].ended < asks[other].begun for other in order[:place]):
            return False
        if asks[at].word == "put":
            last = at
        elif asks[at].told != last:
            return False
    return True


def all_orders(asks):
    return [order for order in itertools.permutations(parts_model(asks)) if fits(asks, order)]


def all_quarrels(asks):
    found = []
    for at, ask in enumerate(asks):
        if ask.told is not None and ask.ended < asks[ask.told].begun:
            found.append(("future", at, ask.told))
    for one, other in itertools.permutations(zones(asks), 2):
        if one[1] < other[2] and other[1] < one[2]:
            found.append(("lots", one[0], other[0]))
    return found


def register_history(seed, many):
    """A long history of one register: each ask takes place at once, at a time between its begin and its end."""
    made = random.Random(seed)
    rows, asks, last = [], [], None
    for at in range(many):
        time = 3 * at + 100
        begun, ended = time - made.randint(0, 90), time + made.randint(1, 90)
        rows.append((begun, ended, made.random() < 0.4))
    for at, (begun, ended, is_put) in enumerate(rows):
        if is_put:
            last = at
            asks.append(Ask("p", "put", begun, ended if made.random() < 0.9 else None))
        else:
            asks.append(Ask("q", "get", begun, ended, last))
    return asks


class ShortHistories(Case):
    def test_all_orders_are_tried(self):
        seen = {True: 0, False: 0}
        for seed in range(900):
            asks = drawn_asks(seed)
            orders, told = all_orders(asks), order_of(asks)
            self.assertIs(bool(told), bool(orders))
            self.assertTrue(shows_order(asks, told))
            seen[bool(told)] += 1
            if orders:
                self.assertIs(type(told), Order)
                self.assertIn(told.indexes, orders)
                self.assertFalse(all_quarrels(asks))
            else:
                self.assertIs(type(told), Quarrel)
                self.assertIn((told.word, told.one, told.other), all_quarrels(asks))
        self.assertGreater(min(seen.values()), 150)

    def test_surely_and_tellable_by_all_orders(self):
        rows = {True: 0, False: 0}
        for seed in range(500):
            asks = drawn_asks(seed)
            orders, told = all_orders(asks), parts_model(asks)
            for one, other in itertools.product(told, told):
                if not orders:
                    self.assertRaisesJust(Clashing("order"), surely, asks, one, other)
                    continue
                wanted = one != other and all(order.index(one) < order.index(other) for order in orders)
                self.assertIs(surely(asks, one, other), wanted)
                rows[wanted] += 1
            end = max([0, *[ask.begun for ask in asks], *[ask.ended or 0 for ask in asks]])
            puts = [at for at, ask in enumerate(asks) if ask.word == "put"]
            wanted = tuple(put for put in [None, *puts]
                           if orders and all_orders([*asks, Ask("z", "get", end + 1, end + 2, put)]))
            self.assertSame(tellable(asks), wanted)
        self.assertGreater(min(rows.values()), 200)

    def test_what_the_looker_takes(self):
        taken = 0
        for seed in range(250):
            asks = drawn_asks(seed)
            orders, quarrels = all_orders(asks), all_quarrels(asks)
            for order in itertools.permutations(parts_model(asks)):
                self.assertIs(shows_order(asks, Order(order)), order in orders)
                taken += order in orders
            numbers = [None, *range(-1, len(asks) + 1)]
            for word, one, other in itertools.product(("future", "lots", "order"), numbers, numbers):
                self.assertIs(shows_order(asks, Quarrel(word, one, other)), (word, one, other) in quarrels)
        self.assertGreater(taken, 250)


class Edges(Case):
    def test_asks_that_touch_are_not_ahead(self):
        asks = [Ask("p", "put", 0, 1), Ask("r", "get", 5, 6, 0), Ask("q", "put", 2, 5), Ask("r", "get", 8, 9, 2)]
        self.assertSame(order_of(asks).indexes, (0, 1, 2, 3))
        asks[2] = Ask("q", "put", 2, 4)
        self.assertFalse(order_of(asks))

    def test_asks_that_play_no_part(self):
        asks = [Ask("p", "put", 0), Ask("q", "get", 5), Ask("q", "put", 7), Ask("r", "get", 8, 9, 2)]
        self.assertSame([order_of(asks).indexes, tellable(asks)], [(2, 3), (0, 2)])
        self.assertIs(shows_order(asks, Order((2, 3))), True)
        for order in ((), (2,), (3,), (0, 2, 3), (2, 3, 1), (2, 3, 0), (2, 3, 3), (3, 2)):
            self.assertIs(shows_order(asks, Order(order)), False)
        self.assertSame([tellable([Ask("p", "put", 0)]), order_of([Ask("p", "put", 0)]).indexes], [(None, 0), ()])

    def test_a_put_that_is_told_and_never_ended(self):
        asks = [Ask("p", "put", 0), Ask("r", "get", 1, 2, 0), Ask("q", "put", 3, 4), Ask("r", "get", 5, 6, 0)]
        self.assertFalse(order_of(asks))
        self.assertSame(order_of(asks[:3]).indexes, (0, 1, 2))
        self.assertSame(tellable(asks[:3]), (2,))

    def test_nothing_stands_ahead_of_all(self):
        asks = [Ask("q", "get", 4, 9), Ask("p", "put", 0, 4), Ask("q", "get", 0, 2)]
        self.assertSame(order_of(asks).indexes, (2, 0, 1))
        self.assertSame([surely(asks, 0, 1), surely(asks, 1, 0), surely(asks, 2, 0), surely(asks, 0, 2)],
                        [True, False, True, False])
        self.assertSame(tellable(asks), (1,))
        self.assertSame([tellable([]), order_of([]).indexes, order_of(()).indexes], [(None,), (), ()])

    def test_alike_and_great_times(self):
        asks = [Ask("p", "put", BOUND, BOUND + 1), *[Ask("q", "get", BOUND + 1, BOUND + 2, 0) for _ in range(5)],
                *[Ask("p", "get", BOUND + 1, BOUND + 2) for _ in range(4)]]
        self.assertSame(order_of(asks).indexes, (6, 7, 8, 9, 0, 1, 2, 3, 4, 5))
        self.assertFalse(order_of([*asks, Ask("p", "get", BOUND + 2, BOUND + 3)]))

    def test_surely_through_other_lots(self):
        chain = [Ask("a", "put", 0, 9), Ask("c", "put", 1, 2), Ask("d", "get", 10, 11, 1), Ask("b", "put", 3, 20),
                 Ask("e", "get", 0, 9, 0), Ask("b", "get", 5, 12, 3)]
        self.assertSame([surely(chain, one, 5) for one in range(6)], [True, True, True, True, True, False])
        self.assertSame([surely(chain, 5, one) for one in range(6)], [False] * 6)

    def test_asks_stay_as_they_are(self):
        asks = list(FINE)
        for work in (order_of, tellable):
            self.assertTrue(work(asks) == work(tuple(asks)))
            self.assertTrue(asks == FINE)
        told, indexes = order_of(asks), [1, 2, 0, 3]
        paper = Order(indexes)
        asks.clear()
        indexes.append(4)
        self.assertSame([told.indexes, paper.indexes], [(1, 2, 0, 3), [1, 2, 0, 3]])


class LongHistories(Case):
    def test_a_thousand_asks(self):
        for seed in range(4):
            asks = register_history(seed, 1000)
            told = order_of(asks)
            self.assertTrue(told)
            self.assertTrue(fits(asks, told.indexes[:300]))
            self.assertTrue(shows_order(asks, told))
            puts = [at for at in range(1000) if asks[at].word == "put"]
            unseen = [put for put in puts if put not in told.indexes]
            self.assertEqual([put for put in unseen if put not in tellable(asks)], [])
            self.assertEqual([put for put in tellable(asks) if put not in puts], [])
            self.assertIs(surely(asks, told.indexes[0], told.indexes[-1]), True)
            self.assertIs(surely(asks, told.indexes[-1], told.indexes[0]), False)
            # The last ask of all tells nothing now, which is not so any more.
            late = [*asks[:-1], Ask("q", "get", asks[-1].begun + 200, asks[-1].begun + 300, None)]
            self.assertFalse(order_of(late))
            self.assertTrue(shows_order(late, order_of(late)))

    def test_puts_alone(self):
        asks = [Ask("p", "put", 2 * at, 2 * at + 1) for at in range(1000)]
        self.assertSame(order_of(asks[::-1]).indexes, tuple(range(1000))[::-1])
        self.assertSame(tellable(asks), (999,))
        self.assertSame([surely(asks, 0, 999), surely(asks, 999, 0)], [True, False])
        self.assertRaisesJust(TooMany("asks", 1000), order_of, [*asks, asks[0]])


class WrongInputs(Case):
    def test_asks(self):
        for work in (order_of, tellable, lambda asks: surely(asks, None, None), lambda asks: shows_order(asks, None)):
            for value in (*[value for value in STRANGE if value not in ((), [])], FINE[0], {}, [FINE[0], None], (3,)):
                self.assertRaisesJust(BadAsk("asks"), work, value)
            self.assertRaisesJust(TooMany("asks", 1000), work, [Ask("q", "get", 0, 1, 7)] * 1001)
            self.assertRaisesJust(BadAsk(1), work, [FINE[0], Ask("q", "get", 0, 1, 1), Ask("q", "get", 0, 1, 9)])

    def test_surely(self):
        asks = [*FINE, Ask("p", "put", 0), Ask("p", "get", 0)]
        for value in (*STRANGE, 4, 5, 6, "0", (0,), FINE[0]):
            if type(value) is not int or value not in range(4):
                self.assertRaisesJust(BadAsk("one"), surely, asks, value, None)
                self.assertRaisesJust(BadAsk("other"), surely, asks, 0, value)
                self.assertRaisesJust(BadAsk("one"), surely, STALE, value if value not in range(3) else 9, 0)
        self.assertRaisesJust(Clashing("order"), surely, STALE, 0, 0)
        self.assertRaisesJust(Clashing("order"), surely, asks=EARLY, other=0, one=1)
        self.assertSame([tellable(EARLY), tellable(STALE)], [(), ()])

    def test_papers_with_parts_otherwise(self):
        for value in (*STRANGE, FINE, Quarrel("order", 0, 1), Order(None)):
            self.assertIs(shows_order(FINE, value), False)
            self.assertIs(shows_order(FINE, Order(value)), False)
            self.assertIs(shows_order(FINE, Order((1, 2, 0, value))), False)
            for part in ("word", "one", "other"):
                for asks, right in ((STALE, {"word": "lots", "one": 0, "other": None}),
                                    (STALE, {"word": "lots", "one": None, "other": 0}),
                                    (EARLY, {"word": "future", "one": 1, "other": 0})):
                    told = {**right, part: value}
                    self.assertIs(shows_order(asks, Quarrel(**told)), same(told, right))
        self.assertIs(shows_order(FINE, Order([1, 2, 0, 3])), False)
        self.assertIs(shows_order(FINE, Order((True, 2, 0, 3))), False)
        self.assertIs(shows_order(EARLY, Quarrel("future", True, 0)), False)
        self.assertIs(shows_order(EARLY, Quarrel("future", 1, False)), False)
        self.assertIs(shows_order(EARLY, Quarrel("future", 1, 0)), True)
        self.assertIs(shows_order(STALE, Quarrel("lots", False, None)), False)
        # The get of another put is no future, and nothing is no put.
        self.assertIs(shows_order(STALE, Quarrel("future", 1, 0)), False)
        self.assertIs(shows_order(STALE, Quarrel("future", 2, None)), False)


if __name__ == "__main__":
    unittest.main()
