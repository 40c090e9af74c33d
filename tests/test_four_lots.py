"""Four lots of nested quotas: stayopen/four_lots.py, and point 10 (c), (d)."""

import itertools
import unittest

from stayopen.bears import bears
from stayopen.books import Book
from stayopen.errors import BadLots, BadQuota, Clashing
from stayopen.four_lots import Right, Wrong, four
from stayopen.lots import Lots
from stayopen.nested import room
from stayopen.quotas import Quotas
from tests.helpers import STRANGE, Case
from tests.scenes import ask, plain_player, settle
from tests.test_nested import CROSS, some_nested
from tests.test_plays import fits_an_order

ALL_LOTS = [Lots(*told) for told in itertools.product(range(1, 6), range(1, 6), range(1, 6), range(5))]


def wanted(most, read, keep, sweep, spare):
    """What the rows of the table tell, in their order."""
    rows = (("keep", read + keep < most + 2), ("spare", spare >= keep or spare >= read),
            ("sweep", read + sweep < most + 2), ("carry", spare >= sweep))
    if read > most or keep > most:
        return Right(True)
    return next((Wrong(word) for word, applies in rows if applies), Right(False))


class Four(Case):
    def test_all_lots_of_all_rooms(self):
        words = set()
        for quotas in (Quotas((0, ("", "a"))), *[Quotas(most=most) for most in range(1, 6)],
                       Quotas((1, ("a",)), (2, ("a", "b")), most=3), Quotas((1, ("",)), (2, ("a",)), most=5)):
            most = room(quotas)
            for lots in ALL_LOTS:
                told = four(quotas, lots)
                self.assertTrue(told == wanted(most, *lots.numbers), (most, lots.numbers))
                self.assertIs(bool(told), isinstance(told, Right))
                self.assertSame(vars(told), vars(wanted(most, *lots.numbers)))
                words.add(None if told else told.word)
        self.assertEqual(words, {None, "keep", "spare", "sweep", "carry"})

    def test_the_book_bears_what_is_right(self):
        for quotas in some_nested()[::12]:
            book = quotas.as_book()
            for lots in ALL_LOTS[::37]:
                told = four(quotas, lots)
                if max(lots.read, lots.keep) <= book.room:
                    is_borne = bool(bears(book, lots.read, lots.keep))
                    self.assertIs(is_borne, told.word != "keep" if isinstance(told, Wrong) else True)
                    if told:
                        self.assertTrue(bears(book, lots.read, lots.sweep))

    def test_the_room_alone_is_looked_at(self):
        # The book of these quotas would have more than 64 states.
        quotas = Quotas(*[(1, (name,)) for name in "abcdef"], most=5)
        self.assertTrue(four(quotas, Lots(4, 3)) == Right(False))
        self.assertTrue(four(quotas, Lots(4, 2)) == Wrong("keep"))

    def test_errors(self):
        lots = Lots(2, 2)
        for value in (*STRANGE, Book({})):
            self.assertRaisesJust(BadQuota("quotas"), four, value, value)
            self.assertRaisesJust(BadLots("lots"), four, CROSS, value)
        self.assertRaisesJust(Clashing("nested"), four, CROSS, lots)
        self.assertRaisesJust(Clashing("nested"), four, CROSS, Lots(5, 5))
        self.assertTrue(four(lots=lots, quotas=Quotas(most=2)) == Right(False))


class Runs(Case):
    """Runs of one change each that break, of lots that are wrong; the same runs of right lots do not."""

    def test_keep(self):
        for numbers in ((2, 2), (3, 2)):
            player = plain_player(4, lots=Lots(*numbers))
            ask(player, "put", "p", 0, 7, keep=(0, 10))
            player.step(("begin", ("go", 0)))
            player.step(("tell", "q"))
            ask(player, "get", "q", 0, read=(20, 30, 10) if numbers[0] == 3 else (20, 30))
            told = player.history(0)
            self.assertIsNotNone(told[1].ended)
            self.assertIs(fits_an_order(told), numbers[0] == 3)
            self.assertSame([ask.told for ask in told], [None, 0 if numbers[0] == 3 else None])

    def spare_run(self, spare):
        player = plain_player(5, lots=Lots(3, 2, 2, spare))
        ask(player, "put", "p", 0, 7, keep=(0, 10))
        player.step(("begin", ("go", 0)))
        settle(player, fence=(20, 30, 40))
        if player.is_settled:
            player.step(("begin", ("go", 10)))
            player.step(("tell", "q"))
            ask(player, "get", "q", 0)
        return player

    def test_spare(self):
        player = self.spare_run(2)
        self.assertEqual(player.epoch, 2)
        self.assertIs(fits_an_order(player.history(0)), False)
        self.assertIs(self.spare_run(1).is_settled, False)

    def test_sweep(self):
        # What one copy alone has swept is not met by three others.
        for sweep in (1, 2):
            player = plain_player(6, lots=Lots(3, 3, sweep, 0))
            ask(player, "put", "p", 0, 7)
            for place in (0, 10):
                player.step(("begin", ("go", place)))
                settle(player, sweep=(place + 10, place + 20)[:sweep])
            player.run(("begin", ("go", 20)), ("tell", "q"))
            ask(player, "get", "q", 0)
            told = player.history(0)
            self.assertSame([told[1].ended is None, told[1].told, fits_an_order(told)],
                            [False, None, False] if sweep == 1 else [False, 0, True])

    def test_carry(self):
        # The two copies that were swept are the two that can be spared.
        for spare in (1, 2):
            player = plain_player(7, lots=Lots(3, 3, 2, spare))
            ask(player, "put", "p", 0, 7)
            player.step(("begin", ("go", 0)))
            settle(player, sweep=(10, 20))
            player.step(("begin", ("go", 10)))
            settle(player, fence=(30, 60), sweep=())
            self.assertIs(player.is_settled, spare == 2)
            if spare == 2:
                player.run(("begin", ("go", 20)), ("tell", "q"))
                ask(player, "get", "q", 0)
                self.assertIs(fits_an_order(player.history(0)), False)


if __name__ == "__main__":
    unittest.main()
