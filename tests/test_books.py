"""Books: stayopen/books.py."""

import unittest

from stayopen.books import Book, classes
from stayopen.errors import BadBook, BadName, BadNumber, BadText, TooMany
from tests import models
from tests.helpers import STRANGE, Case

EIGHT = ("a", "b", "c", "d", "e", "f", "g", "h")


class Making(Case):
    def test_number_of_states(self):
        self.assertEqual(len(Book(*[{"a": k} for k in range(64)]).states), 64)
        self.assertRaisesJust(BadBook("states"), Book, *[{"a": k} for k in range(65)])
        self.assertRaisesJust(BadBook("states"), Book)

    def test_a_state_is_a_dict(self):
        for value in STRANGE:
            if not isinstance(value, dict):
                self.assertRaisesJust(BadBook("states"), Book, {}, value)
        self.assertRaisesJust(BadBook("states"), Book, Book({}))

    def test_keys_are_names_or_empty(self):
        for key in (None, True, 0, 1, "A", "abcdefghi", "a b", "*", " ", ("a",), ()):
            self.assertRaisesJust(BadBook("name"), Book, {key: 0})
        self.assertSame(Book({"abcdefgh": 0, "": 0}).states, ({"abcdefgh": 0, "": 0},))

    def test_values_are_states_or_none(self):
        for value in (True, False, -1, 2, 10 ** 40, "0", (), [0], {}, Book({})):
            self.assertRaisesJust(BadBook("next"), Book, {"a": 0, "b": value}, {})
        self.assertSame(Book({"a": 1, "": None}, {}).states, ({"a": 1, "": None}, {}))

    def test_eight_names(self):
        self.assertEqual(Book({name: 0 for name in EIGHT}, {"": 0}).names, EIGHT)
        self.assertRaisesJust(BadBook("names"), Book, {name: 0 for name in EIGHT}, {"i": None})

    def test_most(self):
        for value in (0, 6, True, None, "3", -1, 10 ** 40, (3,), [3]):
            self.assertRaisesJust(BadBook("most"), Book, {}, most=value)
        self.assertSame([Book({}, most=k).most for k in (1, 5)], [1, 5])
        self.assertEqual(Book({}).most, 3)

    def test_errors_in_their_order(self):
        nine = {name: 7 for name in [*EIGHT, "i"]}
        self.assertRaisesJust(BadBook("states"), Book, {"A": 7}, None, most=0)
        self.assertRaisesJust(BadBook("name"), Book, nine, {"A": 0}, most=0)
        self.assertRaisesJust(BadBook("next"), Book, nine, most=0)
        self.assertRaisesJust(BadBook("names"), Book, {name: 0 for name in nine}, most=0)
        self.assertRaisesJust(BadBook("most"), Book, {}, most=0)

    def test_changes_of_what_was_handed_in_and_of_what_was_returned(self):
        state = {"a": 1, "": 0}
        states = [state, {}]
        book = Book(*states)
        state["a"] = None
        state["b"] = 0
        states[1]["c"] = 0
        self.assertSame(book.states, ({"a": 1, "": 0}, {}))
        book.states[0].clear()
        self.assertSame(book.states, ({"a": 1, "": 0}, {}))
        self.assertIsNot(book.states[0], book.states[0])
        self.assertEqual(book.takes("a", "b"), (True, False))


class Reading(Case):
    def test_names_are_ascending_and_once(self):
        self.assertSame(Book({"b": 0, "": 0}, {"b": 0, "aa": None, "a": 0}).names, ("a", "aa", "b"))

    def test_room(self):
        self.assertSame([Book({}).room, Book({"a": None}).room, Book({"a": 1}, {"a": 1}).room], [0, 0, 3])
        self.assertSame([Book({"a": 1}, {"": 2}, {}, most=5).room, Book({"": 0}, most=5).room], [2, 5])
        # The empty string of a state that tells all names of the book is of other classes.
        self.assertEqual(Book({"a": None, "": 1}, {"a": 2}, {}, most=5).room, 2)

    def test_room_of_many_books(self):
        for seed in range(60):
            book = models.random_book(seed)
            words = models.words_up_to(("a", "b", "c"), book.most)
            most = max(sum(models.takes(book.states, book.most, word)) for word in words)
            self.assertEqual(book.room, most, str(book))

    def test_step(self):
        book = Book({"a": 1, "": 0}, {"b": 0, "": None}, most=1)
        self.assertSame([book.step(0, "a"), book.step(0, "zz"), book.step(1, "a"), book.step(1, "b")], [1, 0, None, 0])
        self.assertSame(book.step(name="b", state=1), 0)
        for value in (-1, 2, True, None, "0", (0,), [0]):
            self.assertRaisesJust(BadNumber(value), book.step, value, "A")
        for value in STRANGE:
            self.assertRaisesJust(BadName(value), book.step, 0, value)

    def test_takes(self):
        book = Book({"a": 1, "": 0}, {"a": None, "": 1}, most=3)
        self.assertSame(book.takes(), ())
        self.assertSame(book.takes("a", "a", "b", "c", "d"), (True, False, True, True, False))
        self.assertRaisesJust(BadName("B"), book.takes, "a", "B", None)
        self.assertRaisesJust(BadName(["a"]), book.takes, ["a"])
        self.assertRaisesJust(BadName(""), book.takes, "a", "")

    def test_takes_of_a_thousand_names(self):
        names = ("a", "b") * 500
        self.assertEqual(Book({"b": 0}, most=5).takes(*names), (False, True) * 5 + (False,) * 990)

    def test_takes_of_many_books(self):
        for seed in range(60):
            book = models.random_book(seed)
            for word in models.words_up_to(("a", "b", "c"), 5):
                self.assertSame(book.takes(*word), models.takes(book.states, book.most, word))


class Both(Case):
    def test_both_take(self):
        for seed in range(40):
            one, other = models.random_book(seed), models.random_book(seed + 1000, names=("b", "c"), states=3)
            both = one & other
            states = (one.states, other.states)
            for word in models.words_up_to(("a", "b", "c", "d"), 5):
                place, copies, told = [0, 0], 0, []
                for name in word:
                    ahead = [models.behind(states[k], place[k], name) for k in (0, 1)]
                    told.append(None not in ahead and copies < min(one.most, other.most))
                    if told[-1]:
                        place, copies = ahead, copies + 1
                self.assertSame(both.takes(*word), tuple(told))

    def test_states_and_their_order(self):
        # d is the free letter of both, and comes ahead of e: the pair behind it is numbered first.
        one = Book({"a": 0, "e": 1, "": 2}, {}, {}, most=4)
        other = Book({"b": 0, "c": 0, "": 0}, most=2)
        both = one & other
        self.assertSame(both.most, 2)
        self.assertEqual(both.states[0], {"a": 0, "b": 1, "c": 1, "e": 2, "": 1})
        self.assertEqual(both.states[2], {"a": None, "b": None, "c": None, "e": None, "": None})

    def test_most_does_not_stop_the_pairs(self):
        chain = Book({"": 1}, {"": 2}, {"": 3}, {"": 3}, most=1)
        self.assertEqual(len((chain & chain).states), 4)

    def test_pairs_are_not_passed_hosts(self):
        # b is passed by other, so one stays too: the pair (1, 0) never comes.
        one, other = Book({"b": 1, "a": 0}, {}), Book({"a": 0})
        self.assertEqual(str(one & other), "book 3 : a 0 , b - , * -")

    def test_sixty_four_pairs_and_more(self):
        ring8 = Book(*[{"": (k + 1) % 8} for k in range(8)])
        ring9 = Book(*[{"": (k + 1) % 9} for k in range(9)])
        ring7 = Book(*[{"": (k + 1) % 7} for k in range(7)])
        ring64 = Book(*[{"": (k + 1) % 64} for k in range(64)])
        self.assertEqual(len((ring9 & ring7).states), 63)
        self.assertEqual(len((ring64 & ring8).states), 64)
        ring5, ring13 = (Book(*[{"": (k + 1) % many} for k in range(many)]) for many in (5, 13))
        self.assertRaisesJust(TooMany("states", 64), lambda: ring13 & ring5)
        self.assertRaisesJust(TooMany("states", 64), lambda: ring9 & ring8)

    def test_errors(self):
        book = Book({"": 0})
        for value in STRANGE:
            self.assertRaisesJust(BadBook("other"), lambda value=value: book & value)
        five, four = Book({name: 0 for name in "abcde"}), Book({name: 0 for name in "efgh"})
        self.assertEqual((five & four).names, EIGHT)
        self.assertRaisesJust(BadBook("names"), lambda: five & Book({name: 0 for name in "fghi"}))
        many = Book(*[{"": (k + 1) % 13, "a": 0, "b": 0} for k in range(13)])
        more = Book(*[{"": (k + 1) % 11, **{name: 0 for name in "cdefghi"}} for k in range(11)])
        self.assertRaisesJust(BadBook("names"), lambda: many & more)


class Equality(Case):
    def test_alike_books_of_other_texts(self):
        self.assertTrue(Book({"a": 0}) == Book({"a": 0, "": None}))
        self.assertFalse(Book({"a": 0}) != Book({"a": 0, "": None}))
        self.assertTrue(Book({"": 0}, most=2) == Book({"": 1}, {"": 2}, {}, most=5))
        self.assertTrue(Book({"": 0}, most=2) != Book({"": 1}, {"": 2}, {"x": 0}, most=5))
        self.assertIs(Book({}) == Book({}), True)

    def test_no_book_is_equal_to_other_values(self):
        for value in STRANGE:
            self.assertIs(Book({}) == value, False)
            self.assertIs(Book({}) != value, True)
        self.assertIs(Book({}) == "book 3 : .", False)

    def test_equality_of_many_books(self):
        books = [models.random_book(seed, names=("a",), states=2) for seed in range(40)]
        for one in books:
            for other in books:
                words = models.words_up_to(("a", "b"), 6)
                alike = all(one.takes(*word) == other.takes(*word) for word in words)
                self.assertIs(one == other, alike, f"{one} and {other}")

    def test_large_books_raise_no_error(self):
        chain = [{name: min(k + 1 + at, 63) for at, name in enumerate(EIGHT)} for k in range(64)]
        other = [{name: min(k + 2 * at, 63) for at, name in enumerate("ijklmnop")} for k in range(64)]
        self.assertIs(Book(*chain, most=5) == Book(*other, most=5), False)
        self.assertIs(Book(*chain, most=5) == Book(*chain, most=5), True)


class Classes(Case):
    def test_free_letter_in_its_place(self):
        self.assertSame(classes(Book({"": 0})), ("a",))
        self.assertSame(classes(Book({"b": 0, "aa": 0})), ("a", "aa", "b"))
        self.assertSame(classes(Book({"a": 0}), Book({"c": 0}), Book({"b": 0})), ("a", "b", "c", "d"))
        self.assertSame(classes(Book({"a": 0}), Book({"a": 0})), ("a", "b"))

    def test_errors(self):
        book = Book({})
        self.assertRaisesJust(BadBook("books"), classes)
        self.assertRaisesJust(BadBook("books"), classes, book, book, book, book)
        for value in STRANGE:
            self.assertRaisesJust(BadBook("books"), classes, book, value)


class Texts(Case):
    def test_str(self):
        self.assertEqual(str(Book({"": None, "b": 0, "a": 1}, {}, most=5)), "book 5 : a 1 , b 0 , * - / .")

    def test_texts_and_back(self):
        for seed in range(60):
            text = str(models.random_book(seed))
            self.assertEqual(str(Book.from_text(text)), text)
            self.assertEqual(Book.from_text(text), models.random_book(seed))

    def test_values_that_are_no_strings(self):
        for value in STRANGE:
            if not isinstance(value, str):
                self.assertRaisesJust(BadText(0, 0), Book.from_text, value)
        self.assertRaisesJust(BadText(0, 0), Book.from_text, Book({}))
        self.assertRaisesJust(BadText(0, 0), Book.from_text, b"book 3 : .")

    def test_words_missing(self):
        words = "book 3 : a 1 , b - , * 0 / .".split(" ")
        for many in range(1, len(words)):
            text = " ".join(words[:many])
            if words[many] in (",", "/"):
                # A text that can end here ends well, or with states that are not there.
                continue
            self.assertRaisesJust(BadText(0, many), Book.from_text, text)

    def test_words_otherwise_at_each_place(self):
        words = "book 3 : a 1 , b - , * 0 / .".split(" ")
        for at in range(len(words)):
            for wrong in ("", "?", "A", "00", "-1", "book2", "a\n", "toolongname", "+1", "1_0"):
                text = " ".join([*words[:at], wrong, *words[at + 1:]])
                self.assertRaisesJust(BadText(0, at), Book.from_text, text)

    def test_a_word_too_many_at_each_place(self):
        words = "book 3 : a 1 , b - , * 0 / .".split(" ")
        for at in range(len(words) + 1):
            for wrong in ("", "?", "01", "A"):
                text = " ".join([*words[:at], wrong, *words[at:]])
                self.assertRaisesJust(BadText(0, at), Book.from_text, text)

    def test_words_that_cannot_stand(self):
        for text, word in (
            ("", 0), (" ", 0), ("Book 3 : .", 0), ("book", 1), ("book 3", 2), ("book 3 :", 3), ("book 3 : ", 3),
            ("book  3 : .", 1), ("book 3 : . ", 4), ("book 3 : . .", 4), ("book 3 : . ,", 4), ("book 3 : . /", 5),
            ("book 3 : a", 4), ("book 3 : a 0 .", 5), ("book 3 : a 0 b 0", 5), ("book 3 : a 0 ,", 6),
            ("book 3 : a 0 , .", 6), ("book 3 : a 0 , a 0", 6), ("book 3 : * 0 , a 0", 6), ("book 3 : * 0 , * 0", 6),
            ("book 3 : * 0 ,", 6), ("book 3 : a 01", 4), ("book 3 : a None", 4), ("book -3 : .", 1),
            ("book - : .", 1), ("book 3 : / .", 3), ("book 3 : - 0", 3), ("book 3 : a 0 / / .", 6),
            ("book 3 : .\n", 3), ("\nbook 3 : .", 0), ("book 3 ; .", 2), ("book \u0663 : .", 1), ("book \u00b2 : .", 1),
        ):
            self.assertRaisesJust(BadText(0, word), Book.from_text, text)

    def test_long_integers(self):
        long = "1" * 41
        self.assertRaisesJust(BadBook("most"), Book.from_text, f"book {long} : .")
        self.assertRaisesJust(BadBook("next"), Book.from_text, f"book 3 : a {long}")
        self.assertRaisesJust(BadText(0, 1), Book.from_text, f"book {long}1 : .")
        self.assertRaisesJust(BadText(0, 4), Book.from_text, f"book 3 : a {long}1")

    def test_what_the_class_raises(self):
        self.assertRaisesJust(BadBook("most"), Book.from_text, "book 0 : .")
        self.assertRaisesJust(BadBook("next"), Book.from_text, "book 0 : a 1")
        dots = " / ".join(["."] * 64)
        self.assertEqual(len(Book.from_text(f"book 1 : {dots}").states), 64)
        self.assertRaisesJust(BadBook("states"), Book.from_text, f"book 1 : {dots} / .")
        nine = " , ".join([f"{name} 0" for name in "abcdefghi"])
        self.assertRaisesJust(BadBook("names"), Book.from_text, f"book 1 : {nine}")
        # A wrong word comes ahead of all that the class raises.
        self.assertRaisesJust(BadText(0, 131), Book.from_text, f"book 0 : {dots} / ?")


if __name__ == "__main__":
    unittest.main()
