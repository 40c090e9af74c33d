"""Histories: stayopen/histories.py, and point 11."""

import itertools
import random
import unittest

from stayopen.errors import BadAsk, TooMany
from stayopen.histories import Ask, parts, zones
from tests.helpers import STRANGE, Case
from tests.test_plays import fits_an_order

NO_COUNTS = [value for value in (*STRANGE, "1", (1,)) if value != 10 ** 40]


def drawn_asks(seed):
    """A history of a few asks that overlap; gets tell any of the puts, or nothing."""
    made = random.Random(seed)
    words = [made.choice(("put", "get")) for _ in range(made.randint(0, 6))]
    puts = [at for at, word in enumerate(words) if word == "put"]
    asks = []
    for word in words:
        begun = made.randint(0, 12)
        ended = None if made.random() < 0.2 else begun + made.randint(1, 6)
        told = made.choice([None, *puts]) if word == "get" and ended is not None else None
        asks.append(Ask(made.choice(("p", "q")), word, begun, ended, told))
    return asks


def told_by(asks, put):
    """The gets that have ended and tell this put, or nothing."""
    return [ask for ask in asks if ask.word == "get" and ask.ended is not None and ask.told == put]


def parts_model(asks):
    return tuple(at for at, ask in enumerate(asks)
                 if ask.ended is not None or (ask.word == "put" and told_by(asks, at)))


def zones_model(asks):
    rows = []
    if told_by(asks, None):
        rows.append((None, -1, max(ask.begun for ask in told_by(asks, None))))
    for at, ask in enumerate(asks):
        if ask.word == "put" and at in parts_model(asks):
            lot = [ask, *told_by(asks, at)]
            rows.append((at, min(one.ended for one in lot if one.ended is not None), max(one.begun for one in lot)))
    return tuple(rows)


def has_order(asks):
    """Whether the asks that play a part have an order, by trying all of them."""
    for order in itertools.permutations(parts_model(asks)):
        last, fits = None, True
        for place, at in enumerate(order):
            fits = fits and not any(asks[at].is_ahead(asks[other]) for other in order[:place])
            if asks[at].word == "put":
                last = at
            else:
                fits = fits and asks[at].told == last
        if fits:
            return True
    return False


class Asks(Case):
    def test_attributes(self):
        self.assertSame(vars(Ask("p", "put", 0)), {"client": "p", "word": "put", "begun": 0, "ended": None, "told": None})
        self.assertSame(vars(Ask(told=7, ended=10 ** 41, begun=10 ** 40, word="get", client="abcdefgh")),
                        {"client": "abcdefgh", "word": "get", "begun": 10 ** 40, "ended": 10 ** 41, "told": 7})
        self.assertSame(Ask("p", "get", 0, 1, 0).told, 0)

    def test_errors(self):
        for value in STRANGE:
            self.assertRaisesJust(BadAsk("client"), Ask, value, value, value, value, value)
            self.assertRaisesJust(BadAsk("word"), Ask, "p", value, value, value, value)
            if value is not None:
                self.assertRaisesJust(BadAsk("told"), Ask, "p", "put", 0, 1, value)
                self.assertRaisesJust(BadAsk("told"), Ask, "p", "get", 0, None, value)
        for value in NO_COUNTS:
            self.assertRaisesJust(BadAsk("begun"), Ask, "p", "put", value, value, value)
            if value is not None:
                self.assertRaisesJust(BadAsk("ended"), Ask, "p", "put", 0, value, value)
                self.assertRaisesJust(BadAsk("told"), Ask, "p", "get", 0, 1, value)
        for word in ("Put", "puts", "tell", "get "):
            self.assertRaisesJust(BadAsk("word"), Ask, "p", word, None)
        for ended in (5, 4, 0, -1):
            self.assertRaisesJust(BadAsk("ended"), Ask, "p", "get", 5, ended, None)
        self.assertRaisesJust(BadAsk("told"), Ask, "p", "put", 5, 6, 0)
        self.assertRaisesJust(BadAsk("told"), Ask, "p", "get", 5, None, 0)
        self.assertRaisesJust(BadAsk("told"), Ask, "p", "get", 5, 6, -1)

    def test_equality(self):
        told = ("p", "get", 3, 6, 1)
        for at, value in ((0, "q"), (2, 4), (3, 7), (4, 0), (4, None)):
            other = Ask(*told[:at], value, *told[at + 1:])
            self.assertIs(Ask(*told) == other, False)
            self.assertIs(Ask(*told) != other, True)
        self.assertIs(Ask("p", "get", 3) == Ask("p", "put", 3), False)
        self.assertIs(Ask(*told) == Ask(*told), True)
        for value in (*STRANGE, told, list(told)):
            self.assertIs(Ask(*told) == value, False)

    def test_is_ahead(self):
        for ended, begun in itertools.product((None, 1, 2, 3), (0, 1, 2, 3)):
            one, other = Ask("p", "put", 0, ended), Ask("q", "put", begun)
            self.assertIs(one.is_ahead(other), ended is not None and ended < begun)
        self.assertIs(one.is_ahead(one), False)
        for value in (*STRANGE, [one]):
            self.assertRaisesJust(BadAsk("other"), one.is_ahead, value)
        self.assertIs(Ask("p", "put", 0, 1).is_ahead(other=Ask("p", "get", 2)), True)


class Histories(Case):
    def test_parts_and_zones(self):
        for seed in range(400):
            asks = drawn_asks(seed)
            for told in (asks, tuple(asks)):
                self.assertSame(parts(told), parts_model(asks))
                self.assertSame(zones(told), zones_model(asks))
        self.assertSame([parts([]), zones(())], [(), ()])

    def test_zones_tell_whether_there_is_an_order(self):
        seen = set()
        for seed in range(250):
            asks = drawn_asks(seed)
            self.assertIs(fits_an_order(asks), has_order(asks), seed)
            seen.add(has_order(asks))
        self.assertEqual(seen, {True, False})

    def test_edges(self):
        # A put that has not ended and that nobody tells is there in no lot; one that is told is.
        self.assertSame(zones([Ask("p", "put", 3)]), ())
        self.assertSame(zones([Ask("p", "put", 9), Ask("q", "get", 1, 4, 0), Ask("q", "get", 2, 3, 0)]), ((0, 3, 9),))
        self.assertSame(zones([Ask("q", "get", 5, 6), Ask("p", "put", 1, 2)]), ((None, -1, 5), (1, 2, 1)))
        self.assertSame(zones([Ask("q", "get", 0, 1)]), ((None, -1, 0),))
        # A get that has not ended tells nothing, and plays no part.
        self.assertSame([parts([Ask("q", "get", 7)]), zones([Ask("q", "get", 7)])], [(), ()])

    def test_a_thousand_asks_and_one_more(self):
        asks = [Ask("p", "put", 0, 1)] * 500 + [Ask("q", "get", 2, 3, 499)] * 500
        self.assertSame(parts(asks), tuple(range(1000)))
        self.assertSame(zones(asks)[499:], ((499, 1, 2),))
        for work in (parts, zones):
            self.assertRaisesJust(TooMany("asks", 1000), work, [*asks, asks[0]])
            self.assertRaisesJust(TooMany("asks", 1000), work, [*asks, Ask("q", "get", 2, 3, 999)])
            self.assertRaisesJust(BadAsk("asks"), work, [*asks, None])

    def test_errors(self):
        put, get = Ask("p", "put", 0, 1), Ask("q", "get", 2, 3, 0)
        for work in (parts, zones):
            for value in STRANGE:
                if value not in ((), []):
                    self.assertRaisesJust(BadAsk("asks"), work, value)
                self.assertRaisesJust(BadAsk("asks"), work, [put, value, get])
            self.assertRaisesJust(BadAsk("asks"), work, {0: put})
            self.assertRaisesJust(BadAsk("asks"), work, put)
            self.assertRaisesJust(BadAsk(0), work, [get])
            self.assertRaisesJust(BadAsk(1), work, [put, Ask("q", "get", 2, 3, 2)])
            self.assertRaisesJust(BadAsk(1), work, [put, Ask("q", "get", 2, 3, 2), get])
            self.assertRaisesJust(BadAsk(2), work, (put, get, Ask("q", "get", 2, 3, 1), Ask("q", "get", 2, 3, 9)))
            self.assertRaisesJust(BadAsk(0), work, [Ask("q", "get", 2, 3, 10 ** 40)])
            self.assertIsNotNone(work(asks=[put, get]))


if __name__ == "__main__":
    unittest.main()
