"""Leaps and their looker: stayopen/leaps.py, stayopen/look_leaps.py."""

import random
import unittest

from stayopen.books import Book
from stayopen.errors import BadBook, BadChange, BadNumber, BadRing, TooMany
from stayopen.leaps import Leaps, leap_at, leaps, most_gone
from stayopen.look_leaps import shows_leaps
from stayopen.pairs import rows_of
from stayopen.quotas import Quotas
from stayopen.rings import Ring
from stayopen.walks import copies
from tests import models
from tests.helpers import STRANGE, Case
from tests.leap_models import AT_THE_BOUND, BOOKS, CROSS, LATE, all_leaps, all_rows, book_at, some_books
from tests.test_pairs import BAD_CHANGES

PAIR = Book({"": 0}, most=2)
LAST = 999999999


class AllLeaps(Case):
    def test_over_all_rings_and_changes(self):
        for book in (*BOOKS[:7], *some_books(8, most=2)):
            for changes in (1, 2):
                told = leaps(book, changes)
                self.assertSame(list(told.triples), sorted(all_leaps(book, changes)))
        wide = Book({"a": 1}, {"": 2, "a": None}, {"a": 0}, most=3)
        self.assertSame(list(leaps(wide).triples), sorted(all_leaps(wide, 1)))
        thin = Book({"": 0}, most=1)
        self.assertSame(list(leaps(thin, 3).triples), [(0, 0, 0), (0, 0, 1), (0, 1, 0), (1, 0, 0), (1, 1, 0)])

    def test_each_leap_is_shown(self):
        for book in (*BOOKS, *some_books(12)):
            for changes in (1, 2, 3):
                if len(all_rows(book, changes)) > 2500:
                    continue
                told = leaps(book, changes)
                self.assertSame(told.table, rows_of(book, changes))
                self.assertSame(list(told.triples), sorted({row[2:5] for row in told.table}))
                self.assertEqual(most_gone(book, changes), max(x for x, _, _ in told.triples))
                self.assertEqual(most_gone(book, changes), max(y for _, y, _ in told.triples))
                for triple, (ring, found) in told.triples.items():
                    self.assertIs(type(ring), Ring)
                    self.assertIs(type(found), tuple)
                    self.assertLessEqual(len(found), changes)
                    ahead, behind = set(copies(book, ring, 0)), set(copies(book, ring.changed(*found), 0))
                    self.assertSame((len(ahead - behind), len(behind - ahead), len(ahead & behind)), triple)
                self.assertIs(shows_leaps(book, told, changes), True)
                self.assertTrue(told == leaps(Book.from_text(str(book)), changes))

    def test_drawn_rings_and_keys_have_no_other_leaps(self):
        for seed in range(60):
            made = random.Random(seed)
            book, changes = models.random_book(seed, states=3), 1 + seed % 3
            try:
                told = leaps(book, changes).triples
            except TooMany:
                continue
            for _ in range(20):
                ring = Ring(*[(at * 10, made.choice("abz")) for at in range(made.randint(0, 9))])
                found = []
                for place in made.sample(range(0, 100, 5), changes):
                    word = made.choice(("go", "turn")) if place in ring else "come"
                    if word == "turn" and ring[place] != "z":
                        found.append(("turn", place, "z"))
                    elif word != "turn":
                        found.append((word, place, made.choice("abz"))[:2 if word == "go" else 3])
                key = made.choice([0, 7, 40, 95, LAST])
                triple = leap_at(book, ring, key, *found)
                self.assertIn(triple, told)
                ahead, behind = set(copies(book, ring, key)), set(copies(book, ring.changed(*found), key))
                self.assertSame(triple, (len(ahead - behind), len(behind - ahead), len(ahead & behind)))

    def test_facts(self):
        for book in (*BOOKS, *some_books(10)):
            told = leaps(book).triples
            # Changes turned about are changes.
            self.assertEqual(set(told), {(y, x, z) for x, y, z in told})
            self.assertLessEqual({(0, 0, z) for z in range(book.room + 1)}, set(told))
            if book.room > 0:
                self.assertIn((1, 1, book.room - 1), told)
        for quotas in (Quotas((1, ("a",)), (2, ("a", "b")), most=3), Quotas((2, ("", "c")), (1, ("c",)), most=4),
                       Quotas(most=5)):
            for changes in (1, 2):
                self.assertLessEqual(most_gone(quotas.as_book(), changes), changes)

    def test_what_was_returned_belongs_to_the_caller(self):
        told = leaps(PAIR)
        told.triples.clear()
        self.assertEqual(len(leaps(PAIR).triples), 8)

    def test_errors(self):
        for value in STRANGE:
            self.assertRaisesJust(BadBook("book"), leaps, value, value)
            self.assertRaisesJust(BadBook("book"), most_gone, value, value)
            self.assertRaisesJust(BadBook("book"), shows_leaps, value, None, value)
        for value in BAD_CHANGES:
            self.assertRaisesJust(BadNumber(value), shows_leaps, PAIR, leaps(PAIR), value)
            self.assertRaisesJust(BadNumber(value), shows_leaps, PAIR, None, value)


class LeapAt(Case):
    def test_ordinary_rings(self):
        ring = Ring((10, "a"), (20, "a"), (30, "a"))
        self.assertSame(leap_at(PAIR, ring, 0, ("go", 10), ("go", 20), ("go", 30)), (2, 0, 0))
        self.assertSame(leap_at(PAIR, ring, 31, ("turn", 10, "b")), (0, 0, 2))
        self.assertSame(leap_at(PAIR, Ring(), LAST, *[("come", at, "a") for at in range(100)]), (0, 2, 0))
        self.assertSame(leap_at(Book({"a": 0}, most=2), ring, 0, ("turn", 10, "b")), (1, 1, 1))
        self.assertSame(leap_at(key=0, ring=ring, book=PAIR), (0, 0, 2))

    def test_errors(self):
        ring = Ring((1, "a"))
        for value in STRANGE:
            self.assertRaisesJust(BadBook("book"), leap_at, value, value, value, value)
            self.assertRaisesJust(BadRing("ring"), leap_at, PAIR, value, value, value)
            self.assertRaisesJust(BadChange(value), leap_at, PAIR, ring, 0, ("go", 1), value, None)
        for value in (None, True, -1, LAST + 1, "1", [0], 10 ** 40):
            self.assertRaisesJust(BadNumber(value), leap_at, PAIR, ring, value, None)
        for change in (("go", 2), ("come", 1, "a"), ("turn", 1, "a"), ("come", 2, "A"), ["go", 1]):
            self.assertRaisesJust(BadChange(change), leap_at, PAIR, ring, 0, change)
        self.assertRaisesJust(BadChange(("go", 1)), leap_at, PAIR, ring, 0, ("go", 1), ("go", 1))
        full = Ring(*[(at, "a") for at in range(100)])
        self.assertRaisesJust(TooMany("hosts", 100), leap_at, PAIR, full, 0, ("come", 100, "a"))


class ShowsLeaps(Case):
    def setUp(self):
        self.told = leaps(LATE)

    def changed(self, triple, row):
        triples = dict(self.told.triples)
        triples[triple] = row
        return Leaps(triples, self.told.table)

    def test_other_right_papers(self):
        triples, table = self.told.triples, self.told.table
        self.assertIs(shows_leaps(LATE, Leaps(dict(reversed(list(triples.items()))), table)), True)
        ring, changes = triples[(3, 2, 0)]
        further = ring >> 100
        moved = tuple((word, place + 100, *rest) for word, place, *rest in changes)
        self.assertIs(shows_leaps(LATE, self.changed((3, 2, 0), (further, moved))), True)
        self.assertIs(shows_leaps(LATE, self.changed((3, 2, 0), (ring.changed(*changes),
                                                                 ring.changed(*changes).changes_to(ring)))), False)
        # The host at the key's own place comes first.
        here = Ring((0, "r"), (1, "x"), (2, "x"), (3, "y"), (4, "x"))
        self.assertIs(shows_leaps(LATE, self.changed((2, 3, 0), (here, (("turn", 0, "q"),)))), True)
        back = (ring.changed(*changes), ring.changed(*changes).changes_to(ring))
        self.assertIs(shows_leaps(LATE, self.changed((2, 3, 0), back)), True)
        # A table with a row that never comes up and leads to no other one; its triple is told anyhow.
        book = Book({"": 0}, {}, most=2)
        told = leaps(book)
        more = (*told.table, (1, 1, 0, 0, 2, 0))
        self.assertIs(shows_leaps(book, Leaps(told.triples, more)), True)
        self.assertIs(shows_leaps(book, Leaps(told.triples, (*told.table, (1, 1, 2, 2, 0, 0)))), False)

    def test_papers_with_one_part_otherwise(self):
        triples, table = self.told.triples, self.told.table
        for triple, (ring, changes) in triples.items():
            fewer = {other: triples[other] for other in triples if other != triple}
            self.assertIs(shows_leaps(LATE, Leaps(fewer, table)), False)
            for row in ((ring, list(changes)), [ring, changes], (ring,), (ring, changes, None), (list(ring), changes),
                        (ring, (*changes, ("come", 77, "q"), ("come", 78, "q"))), (Ring(), (("go", 1),)), (ring, (None,)),
                        (ring, None), (changes, ring), None, (ring, (("come", -1, "a"),))):
                self.assertIs(shows_leaps(LATE, self.changed(triple, row)), False, (triple, row))
            for other, row in triples.items():
                if other != triple:
                    self.assertIs(shows_leaps(LATE, self.changed(triple, row)), False)
        for at in range(len(table)):
            self.assertIs(shows_leaps(LATE, Leaps(triples, table[:at] + table[at + 1:])), False)
        self.assertIs(shows_leaps(LATE, Leaps(triples, list(table))), False)
        self.assertIs(shows_leaps(LATE, Leaps(list(triples.items()), table)), False)

    def test_keys_of_other_kinds(self):
        triples, table = self.told.triples, self.told.table
        for key in ((False, 0, 0), (0, 0, False), (0, 0), (0, 0, 0, 0), "000", None, 0, ((0, 0, 0),)):
            others = {key if triple == (0, 0, 0) else triple: row for triple, row in triples.items()}
            self.assertIs(shows_leaps(LATE, Leaps(others, table)), False, key)
            if key != (0, 0, 0):
                self.assertIs(shows_leaps(LATE, Leaps({**triples, key: triples[(0, 0, 0)]}, table)), False, key)

    def test_too_many_changes(self):
        # One change more than is let, though it leads to the same triple.
        ring = Ring((10, "a"), (20, "a"))
        two = (("turn", 10, "b"), ("turn", 20, "b"))
        for changes in (1, 2):
            told = leaps(PAIR, changes)
            more = Leaps({**told.triples, (0, 0, 2): (ring, two)}, told.table)
            self.assertIs(shows_leaps(PAIR, more, changes), changes == 2)

    def test_of_other_books(self):
        self.assertIs(shows_leaps(PAIR, self.told), False)
        self.assertIs(shows_leaps(CROSS, self.told), False)
        self.assertIs(shows_leaps(LATE, self.told, 2), False)
        self.assertIs(shows_leaps(Book({"z": 0, "": 0}, most=2), leaps(PAIR)), True)

    def test_strange_values(self):
        for value in (*STRANGE, self.told.table, self.told.triples, LATE):
            self.assertIs(shows_leaps(LATE, value), False)
            self.assertIs(shows_leaps(LATE, Leaps(value, self.told.table)), value is self.told.triples)
            self.assertIs(shows_leaps(LATE, Leaps(self.told.triples, value)), value is self.told.table)
            self.assertIs(shows_leaps(LATE, self.changed((0, 0, 0), value)), False)
            self.assertIs(shows_leaps(LATE, self.changed((0, 0, 0), (value, ()))), False)
            self.assertIs(shows_leaps(LATE, self.changed((0, 0, 0), (Ring(), value))), value == ())
            self.assertIs(shows_leaps(LATE, self.changed((0, 0, 0), (Ring(), (value,)))), False)

    def test_the_bound_of_rows(self):
        for number, (many, changes, _) in enumerate(AT_THE_BOUND):
            if many == 2500:
                told = leaps(book_at(number), changes)
                self.assertIs(shows_leaps(book_at(number), told, changes), True)
            else:
                # A looker has no bound: it raises nothing for a paper of more rows.
                table = tuple(sorted(all_rows(book_at(number), changes)))
                self.assertIs(shows_leaps(book_at(number), Leaps({}, table), changes), False)


if __name__ == "__main__":
    unittest.main()
