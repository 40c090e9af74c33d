"""Quotas: stayopen/quotas.py."""

import itertools
import random
import unittest

from stayopen.books import Book
from stayopen.errors import BadName, BadQuota, BadText, TooMany
from stayopen.least_books import least
from stayopen.quotas import Quotas
from tests import models
from tests.helpers import STRANGE, Case

EIGHT = tuple("abcdefgh")


def random_quotas(seed, names=("a", "b", "c"), most_pairs=3):
    made = random.Random(seed)
    pairs = []
    for _ in range(made.randint(0, most_pairs)):
        words = made.sample([*names, ""], made.randint(1, len(names) + 1))
        pairs.append((made.randint(0, 3), tuple(words)))
    return Quotas(*pairs, most=made.randint(1, 5))


def holds(pairs, words, name):
    """Whether a lot of some quotas has a class, straight from the definition."""
    told = {word for _, lot in pairs for word in lot}
    return name in words or (name not in told and "" in words)


def takes(pairs, most, names):
    """What quotas take of a walk, straight from the definition."""
    copies, told = [], []
    for name in names:
        fits = len(copies) < most
        for many, words in pairs:
            if holds(pairs, words, name):
                fits = fits and sum(holds(pairs, words, copy) for copy in copies) < many
        told.append(fits)
        if fits:
            copies.append(name)
    return tuple(told)


class Making(Case):
    def test_attributes(self):
        quotas = Quotas((0, ("b", "", "a")), (5, ("a",)), (0, ("a", "b", "")))
        self.assertSame(quotas.pairs, ((0, ("", "a", "b")), (5, ("a",)), (0, ("", "a", "b"))))
        self.assertSame([quotas.most, quotas.names], [3, ("a", "b")])
        self.assertSame([Quotas().pairs, Quotas().names, Quotas(most=5).most], [(), (), 5])

    def test_pairs(self):
        for value in (*STRANGE, (1,), (1, ()), (1, ("a",), 2), [1, ("a",)], (1, ["a"]), (1, "a"), (True, ("a",)),
                      (6, ("a",)), (-1, ("a",)), ("1", ("a",)), (None, ("a",)), (1, ("a", "a")), (1, ("", "")),
                      (1, ("A",)), (1, (1,)), (1, (None,)), (1, (["a"],)), (1, ("a", "abcdefghi")),
                      (1, (*EIGHT, "i", ""))):
            self.assertRaisesJust(BadQuota(0), Quotas, value)
            self.assertRaisesJust(BadQuota(2), Quotas, (1, ("a",)), (0, ("",)), value, value)
        self.assertEqual(len(Quotas((1, (*EIGHT, ""))).pairs[0][1]), 9)

    def test_pairs_and_classes_counted(self):
        pairs = [(k % 6, ("a",)) for k in range(8)]
        self.assertEqual(len(Quotas(*pairs).pairs), 8)
        self.assertRaisesJust(TooMany("pairs", 8), Quotas, *pairs, (1, ("b",)))
        self.assertEqual(Quotas((1, ("",)), (1, EIGHT)).names, EIGHT)
        self.assertRaisesJust(TooMany("classes", 8), Quotas, (1, (*EIGHT, "i")))
        self.assertRaisesJust(TooMany("classes", 8), Quotas, (1, EIGHT), (1, ("i",)))

    def test_most(self):
        for value in (0, 6, True, None, "3", (3,), [3], -1):
            self.assertRaisesJust(BadQuota("most"), Quotas, (1, ("a",)), most=value)
        self.assertSame([Quotas(most=k).most for k in (1, 5)], [1, 5])

    def test_errors_in_their_order(self):
        nine = [(1, (*EIGHT, "i"))] * 9
        self.assertRaisesJust(BadQuota(9), Quotas, *nine, None, most=0)
        self.assertRaisesJust(TooMany("pairs", 8), Quotas, *nine, most=0)
        self.assertRaisesJust(TooMany("classes", 8), Quotas, *nine[:8], most=0)
        self.assertRaisesJust(BadQuota("most"), Quotas, most=0)


class Taking(Case):
    def test_takes(self):
        for seed in range(40):
            quotas = random_quotas(seed)
            for word in itertools.product(("a", "b", "c", "d"), repeat=5):
                self.assertSame(quotas.takes(*word), takes(quotas.pairs, quotas.most, word))

    def test_ordinary_walks(self):
        quotas = Quotas((1, ("a", "")), (2, ("b",)), most=3)
        self.assertSame(quotas.takes("c", "a", "b", "b", "b", "zz"), (True, False, True, True, False, False))
        self.assertSame(quotas.takes(), ())
        self.assertSame(Quotas((0, ("",))).takes("a"), (False,))
        self.assertEqual(Quotas((2, ("b",)), most=5).takes(*["a", "b"] * 500), (True, True) * 2 + (True,) + (False,) * 995)

    def test_errors(self):
        quotas = Quotas()
        for value in STRANGE:
            self.assertRaisesJust(BadName(value), quotas.takes, "a", value, "B")


class Books(Case):
    def test_as_book(self):
        for seed in range(60):
            quotas = random_quotas(seed)
            book = quotas.as_book()
            self.assertIs(type(book), Book)
            self.assertEqual(str(book), str(least(book)))
            for word in models.words_up_to(("a", "b", "c", "d"), 5):
                self.assertSame(book.takes(*word), quotas.takes(*word))

    def test_ordinary_books(self):
        self.assertEqual(str(Quotas(most=1).as_book()), "book 1 : * 1 / .")
        self.assertEqual(str(Quotas((0, ("",))).as_book()), "book 1 : .")
        self.assertEqual(str(Quotas((1, ("b",)), most=2).as_book()), "book 2 : b 2 , * 1 / * 3 / b - , * 3 / .")
        # The number 5 of a lot, and lots with all classes, bind no more than most.
        self.assertEqual(str(Quotas((5, EIGHT), (3, ("", *EIGHT))).as_book()), str(Quotas().as_book()))

    def test_too_many_states(self):
        singles = [(1, (name,)) for name in EIGHT]
        # Sets of the six classes with k of five copies, the others of other classes: k sets among
        # 5 - k or fewer steps to go. Counted by their deeds.
        for many in range(1, 9):
            for most in range(1, 6):
                quotas = Quotas(*singles[:many], most=most)
                wanted = deeds_of_quotas(quotas)
                if wanted > 64:
                    self.assertRaisesJust(TooMany("states", 64), quotas.as_book)
                else:
                    self.assertEqual(len(quotas.as_book().states), wanted)

    def test_unlike_counts_and_alike_rows(self):
        # Eight lots, of which many counts come up, but one state for each number of copies.
        quotas = Quotas(*[(5, (name,)) for name in EIGHT], most=5)
        self.assertEqual(str(quotas.as_book()), "book 5 : * 1 / * 2 / * 3 / * 4 / * 5 / .")


def deeds_of_quotas(quotas):
    """How many lots of alike rows the walks of some quotas come to."""
    names = sorted([*quotas.names, "z"])
    known, kinds = {}, {}

    def deed(copies):
        if copies not in known:
            told = []
            for name in names:
                fits = quotas.takes(*copies, name)[-1]
                told.append(deed(tuple(sorted((*copies, name)))) if fits else None)
            known[copies] = kinds.setdefault(tuple(told), len(kinds))
        return known[copies]

    deed(())
    return len(kinds)


class Sums(Case):
    def test_pairs_of_both(self):
        one = Quotas((1, ("a", "")), (2, ("b",)), most=4)
        other = Quotas((1, ("c",)), (3, ("", "a")), most=2)
        told = one + other
        self.assertSame(told.pairs, ((1, ("", "a", "c")), (2, ("b",)), (1, ("c",)), (3, ("", "a", "b"))))
        self.assertSame([told.most, (other + one).most], [2, 2])
        self.assertSame(one.pairs, ((1, ("", "a")), (2, ("b",))))
        self.assertEqual(Quotas() + one, one if one.most == 3 else Quotas(*one.pairs, most=3))

    def test_sums_take_what_both_take(self):
        for seed in range(40):
            one, other = random_quotas(seed, ("a", "b")), random_quotas(seed + 500, ("b", "c"))
            told = one + other
            self.assertEqual(told.as_book(), one.as_book() & other.as_book())
            for word in itertools.product(("a", "b", "c", "d"), repeat=4):
                copies, flags = [], []
                for name in word:
                    fits = len(copies) < min(one.most, other.most)
                    for quotas in (one, other):
                        for many, words in quotas.pairs:
                            if holds(quotas.pairs, words, name):
                                count = sum(holds(quotas.pairs, words, copy) for copy in copies)
                                fits = fits and count < many
                    flags.append(fits)
                    copies += [name] if fits else []
                self.assertSame(told.takes(*word), tuple(flags))

    def test_errors(self):
        quotas = Quotas((1, ("a",)))
        for value in (*STRANGE, Book({})):
            self.assertRaisesJust(BadQuota("other"), lambda value=value: quotas + value)
        five = Quotas(*[(1, EIGHT)] * 5)
        self.assertRaisesJust(TooMany("pairs", 8), lambda: five + Quotas(*[(1, ("i",))] * 4))
        self.assertRaisesJust(TooMany("classes", 8), lambda: five + Quotas(*[(1, ("i",))] * 3))
        self.assertEqual(len((five + Quotas(*[(1, ("h",))] * 3)).pairs), 8)
        # Nine words in a pair of the sum: all eight names, and the empty string.
        wide = Quotas((1, ("", "a", "b", "c", "d"))) + Quotas((1, ("e", "f", "g", "h")))
        self.assertSame(wide.pairs[0], (1, ("", *EIGHT)))
        self.assertRaisesJust(TooMany("classes", 8),
                              lambda: Quotas((1, ("", "a", "b", "c", "d", "e"))) + Quotas((1, ("f", "g", "h", "i"))))


class Equality(Case):
    def test_equality(self):
        one = Quotas((1, ("a", "b")), (2, ("",)))
        self.assertIs(one == Quotas((1, ("b", "a")), (2, ("",))), True)
        self.assertIs(one != Quotas((1, ("b", "a")), (2, ("",))), False)
        for other in (Quotas((2, ("",)), (1, ("a", "b"))), Quotas((1, ("a", "b")), (2, ("",)), most=2), Quotas(),
                      one.as_book(), str(one), *STRANGE):
            self.assertIs(one == other, False)
            self.assertIs(one != other, True)


class Texts(Case):
    def test_str_and_back(self):
        self.assertEqual(str(Quotas((0, ("b", "", "a")), (5, ("",)), most=5)), "5 : 0 a b * ; 5 *")
        for seed in range(60):
            quotas = random_quotas(seed)
            self.assertEqual(Quotas.from_text(str(quotas)), quotas)
            self.assertEqual(str(Quotas.from_text(str(quotas))), str(quotas))

    def test_values_that_are_no_strings(self):
        for value in (*STRANGE, Quotas()):
            if not isinstance(value, str):
                self.assertRaisesJust(BadText(0, 0), Quotas.from_text, value)

    def test_words_missing(self):
        words = "3 : 1 a b ; 2 a *".split(" ")
        for many in range(1, len(words)):
            if words[many] in ("b", ";", "*"):
                self.assertEqual(str(Quotas.from_text(" ".join(words[:many]))), " ".join(words[:many]))
            else:
                self.assertRaisesJust(BadText(0, many), Quotas.from_text, " ".join(words[:many]))

    def test_words_otherwise_at_each_place(self):
        words = "3 : 1 a b ; 2 a *".split(" ")
        for at in range(len(words)):
            for wrong in ("", "?", "A", "9", "01", "-1", "toolongname", "b\n", "-"):
                text = " ".join([*words[:at], wrong, *words[at + 1:]])
                # A minus at the place of the first number stands alone: the word behind it cannot.
                word = at + 1 if wrong == "-" and at == 2 else at
                self.assertRaisesJust(BadText(0, word), Quotas.from_text, text)

    def test_a_word_too_many_at_each_place(self):
        words = "3 : 1 a b ; 2 a *".split(" ")
        for at in range(len(words) + 1):
            for wrong in ("", "?", "6", "A", "*a"):
                text = " ".join([*words[:at], wrong, *words[at:]])
                self.assertRaisesJust(BadText(0, at), Quotas.from_text, text)

    def test_words_that_cannot_stand(self):
        for text, word in (
            ("", 0), ("0 : -", 0), ("6 : -", 0), ("3", 1), ("3 -", 1), ("3 :", 2), ("3 : - -", 3), ("3 : - ;", 3),
            ("3 : - ", 3), ("3 : 6 a", 2), ("3 : 1", 3), ("3 : 1 ;", 3), ("3 : 1 a ;", 5), ("3 : 1 a ; -", 5),
            ("3 : 1 a ; ;", 5), ("3 : 1 a a", 4), ("3 : 1 * a", 4), ("3 : 1 * *", 4), ("3 : 1 b ab", 4),
            ("3 : 1 a 2 b", 4), ("3 : 1 a b c d e f g h i *", 12), ("3 : 1 a b c d e f g h i j", 12),
            ("3 : 1 a\n", 3), (" 3 : -", 0), ("3 :  -", 2), ("+3 : -", 0), ("\u0663 : -", 0),
        ):
            self.assertRaisesJust(BadText(0, word), Quotas.from_text, text)

    def test_what_the_class_raises(self):
        self.assertRaisesJust(TooMany("classes", 8), Quotas.from_text, "3 : 1 a b c d e f g h i")
        self.assertRaisesJust(TooMany("pairs", 8), Quotas.from_text, "3 : " + " ; ".join(["1 a"] * 9))
        self.assertRaisesJust(BadText(0, 29), Quotas.from_text, "3 : " + " ; ".join(["1 a"] * 9) + " ;")
        self.assertEqual(len(Quotas.from_text("3 : " + " ; ".join(["1 a"] * 8)).pairs), 8)
        self.assertEqual(len(Quotas.from_text("3 : 1 a b c d e f g h *").pairs[0][1]), 9)


if __name__ == "__main__":
    unittest.main()
