"""Runs, and those that break what is not borne: stayopen/runs.py, breaking.py, nested_breaks.py, point 10."""

import itertools
import random
import unittest

from stayopen.bears import bears
from stayopen.books import Book
from stayopen.breaking import breaking
from stayopen.errors import BadBook, BadLots, BadNumber, BadPlayer, BadQuota, BadStep, Clashing, NoLetter, Nothing, TooMany
from stayopen.four_lots import four
from stayopen.lots import Lots
from stayopen.nested import is_nested, room
from stayopen.nested_breaks import nested_break
from stayopen.orders import Order, Quarrel, order_of
from stayopen.player import Player
from stayopen.quotas import Quotas
from stayopen.runs import Run, shows_run
from stayopen.store import Store
from tests.helpers import STRANGE, Case
from tests.leap_models import BOOKS, CROSS, LATE, all_rows, book_at, some_books
from tests.slow_store import SlowStore, history_of_slow
from tests.test_histories import has_order
from tests.test_lots import NO_LOTS
from tests.test_pairs import BAD_CHANGES

PLAIN = Book({"": 0}, most=3)
QUOTAS = (Quotas(most=1), Quotas(most=2), Quotas(most=3), Quotas(most=4), Quotas(most=5),
          Quotas((1, ("a",)), (2, ("a", "b")), most=3), Quotas((2, ("", "c")), (1, ("c",)), most=4),
          Quotas((1, ("a",)), (1, ("b",)), (2, ("",)), most=5), Quotas((1, ("",)), (1, ("a",)), most=2),
          Quotas((0, ("",)), (2, ("a", "b")), (1, ("a",)), most=5), Quotas((0, ("a", "")), most=2))


def slow_history(run):
    """What a slow store tells of the key of a run behind its steps, all of which can be done."""
    slow = SlowStore(run.store)
    for step in run.steps:
        assert slow.error_of(step) is None
        slow.do(step)
    return slow, history_of_slow(slow, run.key)


class Looks(Case):
    def look_at(self, run, book, lots, changes=1, cares=()):
        """The Run is of just this store, and its answers fit no order, by a slow store, too."""
        self.assertIs(type(run), Run)
        self.assertSame([run.store.lots.numbers, run.store.cares, run.store.changes, run.key],
                        [lots.numbers, cares, changes, 0])
        self.assertTrue(run.store.book == book)
        self.assertIs(type(run.steps), tuple)
        self.assertIs(shows_run(run), True)
        self.assertIs(type(run.end()), Quarrel)
        slow, told = slow_history(run)
        asks = run.played().history(0)
        self.assertSame([(ask.client, ask.word, ask.begun, ask.ended, ask.told) for ask in asks], told)
        self.assertIs(has_order(asks), False)
        return slow


class Breaking(Looks):
    def test_books_and_lots_of_all_numbers(self):
        broken = borne = 0
        for book in (*BOOKS, *some_books(12)):
            for changes in (1, 2, 3):
                if len(all_rows(book, changes)) > 2500:
                    continue
                for read, keep in itertools.product(range(1, book.room + 2), repeat=2):
                    lots = Lots(min(read, 5), min(keep, 5), (read + keep) % 5 + 1, read * keep % 5)
                    if bears(book, lots.read, lots.keep, changes):
                        self.assertRaisesJust(Nothing(), breaking, book, lots, changes)
                        borne += 1
                        continue
                    run = breaking(book, lots, changes)
                    slow = self.look_at(run, book, lots, changes)
                    self.assertLessEqual(len(slow.rings), 2)
                    self.assertEqual([ask["word"] for ask in slow.asks], ["put", "get"])
                    self.assertTrue(all(ask["ended"] is not None for ask in slow.asks))
                    broken += 1
        self.assertGreater(min(broken, borne), 200)

    def test_lots_that_break_without_a_change(self):
        run = breaking(Book({"": 0}, most=2), Lots(1, 1, 5, 4))
        self.look_at(run, Book({"": 0}, most=2), Lots(1, 1, 5, 4))

    def test_a_leap_of_three(self):
        self.look_at(breaking(LATE, Lots(2, 3)), LATE, Lots(2, 3))
        self.look_at(breaking(CROSS, Lots(2, 2), 2), CROSS, Lots(2, 2), 2)

    def test_the_bound_of_rows(self):
        for number, changes in ((1, 1), (3, 2)):
            self.assertRaisesJust(TooMany("pairs", 2500), breaking, book_at(number), Lots(1, 1), changes)
            # Rows count, whatever is asked of them.
            self.assertRaisesJust(TooMany("pairs", 2500), breaking, book_at(number), Lots(5, 5), changes)
        self.look_at(breaking(book_at(0), Lots(1, 1)), book_at(0), Lots(1, 1))
        self.look_at(breaking(book_at(2), Lots(1, 1), 2), book_at(2), Lots(1, 1), 2)

    def test_errors(self):
        for value in (*STRANGE, Quotas(most=2)):
            self.assertRaisesJust(BadBook("book"), breaking, value, None, 9)
        for value in (*NO_LOTS, (2, 2, 2, 1)):
            self.assertRaisesJust(BadLots("lots"), breaking, PLAIN, value, 9)
        for value in BAD_CHANGES:
            self.assertRaisesJust(BadNumber(value), breaking, PLAIN, Lots(3, 2), value)
        self.assertRaisesJust(BadNumber(4), breaking, book_at(1), Lots(5, 5), changes=4)
        self.assertRaisesJust(Nothing(), breaking, book=PLAIN, lots=Lots(4, 1))


class NestedBreaks(Looks):
    def test_all_lots(self):
        words = {}
        for quotas in QUOTAS:
            book = quotas.as_book()
            for read, keep, sweep, spare in itertools.product(range(1, 6), range(1, 6), range(1, 6), range(5)):
                lots = Lots(read, keep, sweep, spare)
                told = four(quotas, lots)
                word = "right" if told else told.word
                if words.get((quotas.most, word), 0) > 25 and (read + keep + sweep + spare) % 7:
                    continue
                words[(quotas.most, word)] = words.get((quotas.most, word), 0) + 1
                if told:
                    self.assertRaisesJust(Nothing(), nested_break, quotas, lots)
                else:
                    self.look_at(nested_break(quotas, lots), book, lots)
        for word in ("right", "keep", "spare", "sweep", "carry"):
            self.assertGreater(sum(many for (_, told), many in words.items() if told == word), 8, word)

    def test_both_sides_of_spare(self):
        """A spare lot that is not below keep, or below keep and not below read."""
        quotas = Quotas(most=5)
        for lots in (Lots(5, 2, 5, 2), Lots(5, 2, 2, 4), Lots(2, 5, 5, 2), Lots(2, 5, 5, 4), Lots(4, 4, 4, 4)):
            self.look_at(nested_break(quotas, lots), quotas.as_book(), lots)

    def test_sweep_and_carry(self):
        quotas = Quotas((2, ("a", "b")), most=5)
        for lots in (Lots(3, 5, 3, 0), Lots(3, 5, 1, 2), Lots(3, 5, 3, 2), Lots(5, 5, 1, 0), Lots(5, 5, 2, 2), Lots(5, 5, 2, 4),
                     Lots(5, 4, 3, 3)):
            self.look_at(nested_break(quotas, lots), quotas.as_book(), lots)

    def test_drawn_quotas(self):
        made, seen = random.Random(12), 0
        while seen < 60:
            pairs = [(made.randint(0, 3), tuple(made.sample(("a", "b", "c", ""), made.randint(1, 3))))
                     for _ in range(made.randint(0, 3))]
            quotas = Quotas(*pairs, most=made.randint(2, 5))
            lots = Lots(*[made.randint(1, 4) for _ in range(3)], made.randint(0, 3))
            if is_nested(quotas) and not four(quotas, lots):
                self.look_at(nested_break(quotas, lots), quotas.as_book(), lots)
                seen += 1

    def test_errors(self):
        crossing = Quotas((1, ("a", "b")), (1, ("b", "c")), most=2)
        wide = Quotas((1, ("a",)), (1, ("b",)), (1, ("c",)), (1, ("d",)), (1, ("e",)), (1, ("f",)), most=5)
        both = Quotas(*wide.pairs, *crossing.pairs, most=5)
        for value in (*STRANGE, PLAIN):
            self.assertRaisesJust(BadQuota("quotas"), nested_break, value, None)
        for value in NO_LOTS:
            self.assertRaisesJust(BadLots("lots"), nested_break, crossing, value)
        self.assertRaisesJust(TooMany("states", 64), both.as_book)
        for quotas in (crossing, both):
            self.assertRaisesJust(Clashing("nested"), nested_break, quotas, Lots(5, 5))
        # The book is made ahead of the question whether the lots are right.
        self.assertSame([is_nested(wide), room(wide)], [True, 5])
        for lots in (Lots(5, 5), Lots(1, 1)):
            self.assertRaisesJust(TooMany("states", 64), nested_break, wide, lots)
        self.assertRaisesJust(Nothing(), nested_break, lots=Lots(2, 2), quotas=Quotas(most=1))


class Runs(Case):
    RUN = breaking(PLAIN, Lots(2, 2))

    def test_played_and_end(self):
        run = self.RUN
        one, other = run.played(), run.played()
        self.assertIs(type(one), Player)
        self.assertTrue(one == other)
        one.step(("tell", "z"))
        self.assertSame([one.clock, other.clock, run.played().deeds], [len(run.steps) + 1, len(run.steps), run.steps])
        self.assertTrue(run.end() == order_of(run.played().history(0)))
        self.assertIs(type(Run(run.store, run.steps[:-1], 0).end()), Order)
        self.assertSame(Run(run.store, run.steps, 5).end().indexes, ())

    def test_what_played_and_end_raise(self):
        run = self.RUN
        self.assertRaisesJust(BadPlayer("store"), Run(None, run.steps, 0).played)
        self.assertRaisesJust(NoLetter(99), Run(run.store, (("tell", "p"), ("pass", 99)), 0).played)
        self.assertRaisesJust(NoLetter(99), Run(run.store, (("pass", 99),), -1).end)
        self.assertRaisesJust(BadStep(["tell", "p"]), Run(run.store, (["tell", "p"],), 0).end)
        self.assertRaisesJust(BadNumber(-1), Run(run.store, (), -1).end)
        self.assertRaisesJust(TooMany("steps", 2000), Run(run.store, (("settle",),) * 2001, 0).played)

    def test_shows_run(self):
        run = self.RUN
        self.assertIs(shows_run(run), True)
        self.assertIs(shows_run(Run(run.store, run.steps + (("tell", "z"),), 0)), True)
        self.assertIs(shows_run(Run(run.store, run.steps, 1)), False)
        self.assertIs(shows_run(Run(run.store, list(run.steps), 0)), False)
        for at in range(len(run.steps)):
            self.assertIs(shows_run(Run(run.store, run.steps[:at], 0)), False)
            for value in (*STRANGE, list(run.steps[at]), ("pass", 99), ("fall", 7)):
                self.assertIs(shows_run(Run(run.store, (*run.steps[:at], value, *run.steps[at:]), 0)), False)
        for value in (*STRANGE, run.store, run.steps, Run, run.end(), run.played()):
            self.assertIs(shows_run(value), False)
            self.assertIs(shows_run(Run(value if value is not run.store else None, run.steps, 0)), False)
            self.assertIs(shows_run(Run(run.store, value if value is not run.steps else None, 0)), False)
            self.assertIs(shows_run(Run(run.store, run.steps, value)), False)
        # Other lots that the book bears, and a step more than a play can have.
        better = Store(run.store.ring, PLAIN, Lots(3, 2))
        self.assertIs(shows_run(Run(better, run.steps, 0)), False)
        full = (*run.steps, *[("settle",)] * (2000 - len(run.steps)))
        self.assertSame([shows_run(Run(run.store, full, 0)), shows_run(Run(run.store, (*full, ("settle",)), 0))], [True, False])

    def test_other_keys_and_cares_left_out(self):
        run = self.RUN
        careless = Store(run.store.ring, PLAIN, Lots(2, 2), ("back", "older"))
        steps = (("put", "p", 7, 1), ("drop", "p"))
        self.assertIs(shows_run(Run(careless, steps, 7)), False)
        moved = [(word, number + 3) if word == "pass" else (word, number, *rest) for word, number, *rest in run.steps]
        self.assertIs(shows_run(Run(run.store, (*steps, *moved), 0)), True)


if __name__ == "__main__":
    unittest.main()
