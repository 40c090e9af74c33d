"""What books bear, and the looker: stayopen/bears.py, stayopen/look_bears.py."""

import itertools
import unittest

from stayopen.bears import Bears, Breaks, bears, fewest, frontier, greatest_sum, price, stopping
from stayopen.books import Book
from stayopen.errors import BadBook, BadLots, BadNumber
from stayopen.leaps import leaps
from stayopen.look_bears import shows_bears
from stayopen.pairs import rows_of
from stayopen.quotas import Quotas
from stayopen.rings import Ring
from stayopen.walks import copies
from tests.helpers import STRANGE, Case
from tests.leap_models import BOOKS, CROSS, LATE, STAIRS, all_rows, bears_model, book_at, some_books
from tests.test_lots import NO_LOTS
from tests.test_pairs import BAD_CHANGES

PAIR = Book({"": 0}, most=2)
NUMBERS = list(itertools.product(range(1, 6), range(1, 6)))


def books_and_leaps():
    for book in (*BOOKS, *some_books(14)):
        for changes in (1, 2, 3):
            if len(all_rows(book, changes)) <= 2500:
                yield book, changes, list(leaps(book, changes).triples)


class Tells(Case):
    def test_bears(self):
        for book, changes, triples in books_and_leaps():
            for read, keep in NUMBERS:
                told = bears(book, read, keep, changes)
                self.assertIs(bool(told), bears_model(triples, read, keep))
                self.assertIs(shows_bears(book, read, keep, told, changes), True)
                if told:
                    self.assertSame(vars(told), {"table": rows_of(book, changes)})
                else:
                    self.look_at_break(book, read, keep, changes, told)

    def look_at_break(self, book, read, keep, changes, told):
        self.assertIs(type(told), Breaks)
        self.assertLessEqual(len(told.changes), changes)
        ahead, behind = copies(book, told.ring, 0), copies(book, told.ring.changed(*told.changes), 0)
        self.assertSame(told.heard, tuple(place for place in ahead if place in told.heard))
        self.assertSame(told.kept, tuple(place for place in behind if place in told.kept))
        self.assertSame([len(told.heard), len(told.kept)], [read, keep])
        self.assertFalse(set(told.heard) & set(told.kept))

    def test_greatest_sum(self):
        for book, changes, triples in books_and_leaps():
            for read, keep in NUMBERS:
                sums = [x + y + z for x, y, z in triples if x + z >= keep and y + z >= read]
                told = greatest_sum(book, read, keep, changes)
                self.assertSame(told, max(sums) if sums else None)
                self.assertIs(bool(bears(book, read, keep, changes)), told is None or told < read + keep)

    def test_frontier_stopping_and_price(self):
        for book, changes, triples in books_and_leaps():
            room = book.room
            borne = {(read, keep) for read, keep in NUMBERS if max(read, keep) <= room
                     and bears_model(triples, read, keep)}
            wanted = tuple(sorted((read, keep) for read, keep in borne
                                  if (read - 1, keep) not in borne and (read, keep - 1) not in borne))
            self.assertSame(frontier(book, changes), wanted)
            self.assertSame(stopping(book), tuple((read, room + 1 - read) for read in range(1, room + 1)))
            cost = min((read + keep for read, keep in wanted), default=None)
            self.assertSame(price(book, changes), None if cost is None else cost - room - 1)

    def test_a_frontier_of_unlike_sums(self):
        self.assertSame([frontier(STAIRS), price(STAIRS), STAIRS.room], [((2, 5), (4, 4), (5, 2)), 1, 5])

    def test_books_of_no_copies(self):
        for book in (Book({}), Book({"a": None}, most=5)):
            self.assertSame([frontier(book, 3), stopping(book), price(book)], [(), (), None])
            self.assertSame([bool(bears(book, 1, 1)), greatest_sum(book, 1, 1)], [True, None])

    def test_read_and_keep_above_the_room_are_borne(self):
        for read, keep in NUMBERS:
            if max(read, keep) > 2:
                self.assertIs(bool(bears(CROSS, read, keep)), True)
                self.assertIs(greatest_sum(CROSS, read, keep), None)

    def test_nested_quotas(self):
        for quotas in (Quotas((1, ("a",)), (2, ("a", "b")), most=3), Quotas((2, ("", "c")), (1, ("c",)), most=4),
                       Quotas(most=5), Quotas((1, ("a",)), (1, ("b",)), most=4)):
            book = quotas.as_book()
            for read, keep in NUMBERS:
                if max(read, keep) <= book.room:
                    self.assertIs(bool(bears(book, read, keep)), read + keep >= book.room + 2)

    def test_more_changes_bear_no_more(self):
        for book in (LATE, PAIR, Book({"": 0}, most=4)):
            for read, keep in NUMBERS:
                told = [bool(bears(book, read, keep, changes)) for changes in (1, 2, 3)]
                self.assertEqual(told, sorted(told, reverse=True))

    def test_the_bound_of_rows(self):
        self.assertIs(shows_bears(book_at(2), 1, 2, bears(book_at(2), 1, 2, 2), 2), True)
        # No leap by one change is above the room.
        self.assertIs(shows_bears(book_at(0), 5, 5, bears(book_at(0), 5, 5), 1), True)


class Fewest(Case):
    def test_fewest(self):
        """By all leaps of the book that takes every host, r at most, over all rings."""
        for changes in (1, 2, 3):
            for falls in range(5):
                many = 1
                while not any(bears_model(plain_leaps(many, changes), read, keep)
                              for read in range(1, many - falls + 1) for keep in range(1, many - falls + 1)):
                    many += 1
                self.assertSame(fewest(falls, changes), many)
        self.assertSame([fewest(100), fewest(100, 3), fewest(changes=1, falls=0)], [202, 204, 2])

    def test_plain_leaps(self):
        for most in range(1, 6):
            for changes in (1, 2, 3):
                told = leaps(Book({"": 0}, most=most), changes).triples
                self.assertEqual(plain_leaps(most, changes), set(told))

    def test_errors(self):
        for value in (*STRANGE, 101, "1"):
            self.assertRaisesJust(BadNumber(value), fewest, value, None)
        for value in BAD_CHANGES:
            self.assertRaisesJust(BadNumber(value), fewest, 100, value)


def plain_leaps(most, changes):
    """All leaps of the book that takes every host: the first hosts ahead, gone, come and turned ones."""
    found = set()
    for hosts in range(2 * most + changes + 1):
        for gone in range(changes + 1):
            for come in range(changes + 1 - gone):
                for gone_copies in range(min(gone, most, hosts) + 1):
                    if gone > hosts:
                        continue
                    # Those who go are the first copies and the last hosts, those who come stand ahead of all.
                    rest = [("old", at) for at in range(hosts)][gone_copies:]
                    rest = rest[:len(rest) - (gone - gone_copies)] if gone > gone_copies else rest
                    ahead = {("old", at) for at in range(min(most, hosts))}
                    for ahead_of_all in range(come + 1):
                        told = [("new", at) for at in range(ahead_of_all)] + rest
                        told += [("new", at) for at in range(ahead_of_all, come)]
                        behind = set(told[:most])
                        found.add((len(ahead - behind), len(behind - ahead), len(ahead & behind)))
    return found


class Errors(Case):
    def test_errors_in_their_order(self):
        for value in STRANGE:
            for work in (bears, greatest_sum):
                self.assertRaisesJust(BadBook("book"), work, value, value, value, value)
            self.assertRaisesJust(BadBook("book"), shows_bears, value, value, value, value, value)
            for work in (frontier, price):
                self.assertRaisesJust(BadBook("book"), work, value, value)
            self.assertRaisesJust(BadBook("book"), stopping, value)
        for value in NO_LOTS:
            for work in (bears, greatest_sum):
                self.assertRaisesJust(BadLots("read"), work, book_at(1), value, value, value)
                self.assertRaisesJust(BadLots("keep"), work, book_at(1), 5, value, value)
            self.assertRaisesJust(BadLots("read"), shows_bears, PAIR, value, value, value, 0)
            self.assertRaisesJust(BadLots("keep"), shows_bears, PAIR, 1, value, value, 0)
        for value in BAD_CHANGES:
            for work in (bears, greatest_sum):
                self.assertRaisesJust(BadNumber(value), work, book_at(1), 1, 5, value)
            self.assertRaisesJust(BadNumber(value), shows_bears, PAIR, 5, 1, value, value)
            self.assertRaisesJust(BadNumber(value), shows_bears, PAIR, 2, 2, bears(PAIR, 2, 2), value)
        self.assertIs(bool(bears(changes=1, keep=2, read=2, book=PAIR)), True)


class Shows(Case):
    def test_tables(self):
        table = rows_of(PAIR)
        self.assertIs(shows_bears(PAIR, 2, 2, Bears(table)), True)
        for at in range(len(table)):
            self.assertIs(shows_bears(PAIR, 2, 2, Bears(table[:at] + table[at + 1:])), False)
        self.assertIs(shows_bears(PAIR, 2, 2, Bears(table), 2), False)
        self.assertIs(shows_bears(PAIR, 2, 2, Bears(rows_of(PAIR, 2)), 2), False)
        self.assertIs(shows_bears(PAIR, 2, 2, Bears(rows_of(PAIR, 2))), False)
        self.assertIs(shows_bears(PAIR, 2, 2, Bears(list(table))), False)
        self.assertIs(shows_bears(PAIR, 1, 1, Bears(table)), False)
        self.assertIs(shows_bears(PAIR, 3, 1, Bears(table)), True)
        # Rows that never come up are let if the table is closed and none of them is bad.
        book = Book({"": 0}, {}, most=2)
        self.assertIs(shows_bears(book, 2, 2, Bears((*rows_of(book), (1, 1, 1, 1, 1, 0)))), True)
        self.assertIs(shows_bears(book, 2, 2, Bears((*rows_of(book), (1, 1, 2, 2, 0, 0)))), False)

    def test_breaks(self):
        ring, come = Ring((2, "a"), (3, "a")), (("come", 1, "b"),)
        for read, keep, told, wanted in (
            (2, 1, (ring, come, (1,), (2, 3)), True), (1, 2, (ring, come, (1, 2), (3,)), True),
            (1, 1, (ring, (), (2,), (3,)), True), (1, 1, (ring, (), (3,), (2,)), True), (1, 1, (ring, come, (1,), (2,)), True),
            (1, 1, (ring, come, (2,), (3,)), True), (1, 1, (ring, (), (2,), (2,)), False),
            (1, 1, (ring, come, (3,), (2,)), False), (1, 1, (ring, come, (2,), (1,)), False),
            (2, 1, (ring, come, (1,), (3, 2)), False), (2, 1, (ring, come, (1,), (2, 2)), False),
            (1, 2, (ring, come, (2, 1), (3,)), False), (2, 1, (ring, come, (1,), (2,)), False),
            (2, 1, (ring, come, (1, 2), (2, 3)), False), (2, 1, (ring, come, [1], (2, 3)), False),
            (2, 1, (ring, come, (1,), [2, 3]), False), (2, 1, (ring, list(come), (1,), (2, 3)), False),
            (2, 1, (ring, (*come, ("come", 0, "q")), (1,), (2, 3)), False), (2, 1, (list(ring), come, (1,), (2, 3)), False),
            (2, 1, (ring, (("come", 2, "b"),), (1,), (2, 3)), False), (2, 1, (ring, come[0], (1,), (2, 3)), False),
            (2, 1, (ring, come, (True,), (2, 3)), False), (2, 1, (ring, come, ("1",), (2, 3)), False),
            (2, 1, (ring, come, (2, 3), (1,)), False),
        ):
            self.assertIs(shows_bears(PAIR, read, keep, Breaks(*told)), wanted, told)
        self.assertIs(shows_bears(PAIR, 2, 1, Breaks(ring, (*come, ("come", 0, "q")), (0,), (2, 3)), 2), True)
        # The host at the key's own place comes first.
        self.assertIs(shows_bears(PAIR, 1, 1, Breaks(Ring((0, "a"), (1, "a"), (2, "a")), (("go", 2),), (1,), (0,))), True)
        self.assertIs(shows_bears(PAIR, 1, 1, Breaks(Ring((0, "a"), (1, "a"), (2, "a")), (("go", 2),), (0,), (1,))), True)
        self.assertIs(shows_bears(PAIR, 1, 1, Breaks(Ring((0, "a"), (1, "a"), (2, "a")), (), (0,), (2,))), False)
        wide = Book({"": 0}, most=4)
        row = Ring(*[(at, "a") for at in range(1, 5)])
        self.assertIs(shows_bears(wide, 2, 2, Breaks(row, (), (1, 3), (2, 4))), True)
        self.assertIs(shows_bears(wide, 2, 2, Breaks(row, (), (3, 1), (2, 4))), False)

    def test_strange_values(self):
        ring, come = Ring((2, "a"), (3, "a")), (("come", 1, "b"),)
        for value in (*STRANGE, PAIR, rows_of(PAIR)):
            self.assertIs(shows_bears(PAIR, 2, 1, value), False)
            self.assertIs(shows_bears(PAIR, 2, 2, Bears(value)), value == rows_of(PAIR))
            told = [ring, come, (1,), (2, 3)]
            for at in range(4):
                if value != told[at]:
                    self.assertIs(shows_bears(PAIR, 2, 1, Breaks(*told[:at], value, *told[at + 1:])), False, (at, value))
            self.assertIs(shows_bears(PAIR, 2, 1, Breaks(ring, (value,), (1,), (2, 3))), False)
            self.assertIs(shows_bears(PAIR, 2, 1, Breaks(ring, come, (1,), (2, value))), False)


if __name__ == "__main__":
    unittest.main()
