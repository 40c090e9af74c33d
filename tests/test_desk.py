"""The desk: stayopen/desk_lines.py, stayopen/desk.py, beside plays and functions that tell the same."""

import random
import unittest

from stayopen.bears import bears
from stayopen.books import Book
from stayopen.calm import calm
from stayopen.desk import Desk
from stayopen.desk_lines import words_of
from stayopen.ends import ends
from stayopen.errors import (BadBook, BadChange, BadCommand, BadNumber, Clashing, NoClient, NoHost, NoLetter, Nothing, OpenError,
                             TooMany)
from stayopen.falls import bears_falls, stopped
from stayopen.guards import guard
from stayopen.leaps import leaps
from stayopen.lots import Lots
from stayopen.orders import Order, order_of
from stayopen.player import Player
from stayopen.rings import Ring
from stayopen.runs import Run, shows_run
from stayopen.store import Store
from stayopen.texts import ask_line, lots_line, play_page, ring_line, step_line
from stayopen.walks import copies
from tests.helpers import STRANGE, Case
from tests.leap_models import BOOKS, all_rows, book_at
from tests.slow_store import CLIENTS, KEYS, SlowStore, drawn_step, drawn_store, seen_of_player
from tests.test_texts import STEP_LINES, WORDS, first_bad, is_name, is_place, lots_end, lots_word, ring_end, ring_word
from tests.test_texts import step_end, step_word

LAST = 999999999
NO_LINES = [value for value in STRANGE if not isinstance(value, str)]
WITH_A_PLAY = ("undo", "clock", "epoch", "settled", "kept 0 0", "letters", "history 0", "order 0", "guard", "ends p", "calm", "page",
               *STEP_LINES)


def listed(rows):
    return " ; ".join(" ".join(map(str, row)) for row in rows) or "-"


def numbers(row):
    return " ".join(map(str, row)) or "-"


def yes(told):
    return "yes" if told else "no"


def seen(desk):
    """All that a desk tells."""
    player = desk.played()
    return (str(desk.book), list(desk.ring), desk.lots.numbers, player and (seen_of_player(player), player.store.cares))


def desk_of(player, *lines):
    """A desk whose play is that of a player."""
    desk = Desk()
    store = player.store
    desk.say_all(str(store.book), ring_line(store.ring), lots_line(store.lots), "open " + " ".join(store.cares) if store.cares
                 else "open", *[step_line(step) for step in player.deeds], *lines)
    return desk


class Settings(Case):
    def test_at_first(self):
        desk = Desk()
        self.assertSame(seen(desk), ("book 3 : * 0", [], (2, 3, 3, 1), None))
        self.assertTrue([desk.book, desk.ring, desk.lots] == [Book({"": 0}), Ring(), Lots(2, 3)])

    def test_book_ring_and_lots(self):
        desk = Desk()
        for book in BOOKS:
            self.assertSame(desk.say(str(book)), str(book.room))
            self.assertTrue(desk.book == book)
        for hosts in ((), ((0, "a"),), ((0, "a"), (LAST, "zz"))):
            ring = Ring(*hosts)
            self.assertSame(desk.say(ring_line(ring)), str(len(hosts)))
            self.assertTrue(desk.ring == ring)
        for lots in (Lots(2, 3), Lots(5, 5, 1, 4)):
            self.assertSame(desk.say(lots_line(lots)), "ok")
            self.assertTrue(desk.lots == lots)

    def test_changes_of_the_ring(self):
        desk = Desk()
        self.assertSame(desk.say_all("come 5 a", "come 0 b", "turn 5 b", "go 0"), ("1", "2", "2", "1"))
        self.assertSame(list(desk.ring), [(5, "b")])
        for line, change in (("come 5 a", ("come", 5, "a")), ("go 0", ("go", 0)), ("turn 5 b", ("turn", 5, "b")), ("turn 1 b", ("turn", 1, "b"))):
            self.assertRaisesJust(BadChange(change), desk.say, line)
        desk.say(" ".join(["ring", *[f"{place} a" for place in range(100)]]))
        self.assertRaisesJust(TooMany("hosts", 100), desk.say, "come 100 a")
        self.assertSame([len(desk.ring), desk.say("go 7")], [100, "99"])

    def test_what_the_classes_raise(self):
        desk = Desk()
        self.assertRaisesJust(BadBook("next"), desk.say, "book 3 : * 1")
        self.assertRaisesJust(BadBook("most"), desk.say, "book 9 : * 0")
        self.assertRaisesJust(TooMany("hosts", 100), desk.say, " ".join(["ring", *[f"{place} a" for place in range(101)]]))
        self.assertSame(seen(desk), seen(Desk()))


class Questions(Case):
    def test_copies_stopped_and_falls(self):
        for seed in range(60):
            made = random.Random(seed)
            store = drawn_store(made)
            book, ring, lots = store.book, store.ring, store.lots
            desk = Desk()
            desk.say_all(str(book), ring_line(ring), lots_line(lots))
            for key in (0, 1, 25, LAST):
                self.assertSame(desk.say(f"copies {key}"), numbers(copies(book, ring, key)))
            self.assertSame(desk.say("falls"), str(bears_falls(book, ring, lots).many))
            for many in range(3):
                fallen = made.choices(sorted(dict(ring)), k=many) if len(ring) else []
                line = " ".join(["stopped", *map(str, fallen)])
                self.assertSame(desk.say(line), listed(stopped(book, ring, lots, *fallen)))
        self.assertSame(Desk().say_all("falls", "stopped", "copies 0"), ("-1", f"0 {LAST}", "-"))
        self.assertRaisesJust(NoHost(7), desk.say, "stopped 7")

    def test_leaps_and_bears(self):
        for book in BOOKS:
            desk = Desk()
            desk.say(str(book))
            for changes in (1, 2, 3):
                if len(all_rows(book, changes)) > 2500:
                    continue
                triples = sorted(leaps(book, changes).triples)
                self.assertSame(desk.say(f"leaps {changes}"), listed(triples))
                for lots in (Lots(1, 1), Lots(1, 2), Lots(2, 1), Lots(2, 2), Lots(3, 2), Lots(2, 3), Lots(5, 5), Lots(4, 3)):
                    desk.say(lots_line(lots))
                    bad = [(x, y, z) for x, y, z in triples if x + z >= lots.keep and y + z >= lots.read
                           and x + y + z >= lots.read + lots.keep]
                    self.assertIs(bool(bad), not bears(book, lots.read, lots.keep, changes))
                    self.assertSame(desk.say(f"bears {changes}"), "no " + numbers(bad[0]) if bad else "yes")

    def test_which_lot_is_ahead(self):
        """The keep lot is ahead of the changes, the read lot behind them."""
        desk = Desk()
        desk.say_all("book 3 : r 4 , x 1 / x 2 / x 3 / . / y 3", "lots 2 3 2 1")
        self.assertSame([desk.say("bears 1"), desk.say("lots 3 2 2 1"), desk.say("bears 1")], ["no 3 2 0", "ok", "no 2 3 0"])

    def test_too_many_rows(self):
        desk = Desk()
        desk.say(str(book_at(1)))
        for line in ("leaps 1", "bears 1"):
            self.assertRaisesJust(TooMany("pairs", 2500), desk.say, line)


class DrawnPlays(Case):
    def test_lines_beside_a_play(self):
        errors = answers = 0
        for seed in range(40):
            made = random.Random(80000 + seed)
            store = drawn_store(made)
            store = Store(store.ring, store.book, store.lots, store.cares, 3)
            player, slow, desk = Player(store), SlowStore(store), desk_of(Player(store))
            for _ in range(90):
                step = drawn_step(made, slow)
                sent = len(slow.letters)
                if slow.error_of(step) is None:
                    player.step(step)
                    slow.do(step)
                    self.assertSame(desk.say(step_line(step)), str(len(slow.letters) - sent))
                else:
                    self.assertRaisesJust(slow.error_of(step), desk.say, step_line(step))
                    errors += 1
                if made.random() < 0.2:
                    self.look(desk, player)
                    answers += 1
            if player.clock:
                step = player.undo()
                self.assertSame(desk.say("undo"), step_line(step))
            self.look(desk, player)
            told = calm(player)
            player.run(*told.steps)
            self.assertSame(desk.say("calm"), str(len(told.rounds)))
            self.look(desk, player)
        self.assertGreater(min(errors, answers), 100)

    def look(self, desk, player):
        self.assertTrue(desk.played() == player)
        self.assertSame(seen_of_player(desk.played()), seen_of_player(player))
        self.assertSame(desk.say_all("clock", "epoch", "settled", "letters", "guard", "page"), (
            str(player.clock), str(player.epoch), yes(player.is_settled), numbers(letter.number for letter in player.letters()),
            yes(guard(player)), play_page(player).replace("\n", " / ")))
        for key in KEYS:
            history = player.history(key)
            self.assertSame(desk.say(f"history {key}"), " ; ".join(map(ask_line, history)) or "-")
            told = order_of(history)
            if told:
                self.assertSame(desk.say(f"order {key}"), numbers(told.indexes))
            else:
                word, one, other = desk.say(f"order {key}").split(" ")[1:]
                self.assertSame([word, {one, other}], [told.word, {"-" if lot is None else str(lot) for lot in (told.one, told.other)}])
        places = {place for epoch in range(player.epoch + 1) for place, _ in player.ring_of(epoch)}
        for place in sorted(places):
            for key in (0, 25):
                kept = player.host(place).kept(key)
                wanted = "-" if kept.put is None else f"{kept.stamp[0]} {kept.stamp[1]} {kept.put} {kept.value}"
                self.assertSame(desk.say(f"kept {place} {key}"), wanted)
        for name in CLIENTS:
            if name not in player.clients:
                self.assertRaisesJust(NoClient(name), desk.say, f"ends {name}")
            elif player.asking(name) is None:
                self.assertRaisesJust(Clashing("idle"), desk.say, f"ends {name}")
            else:
                self.assertSame(desk.say(f"ends {name}"), yes(ends(player, name)))


class PlaysOfADesk(Case):
    def test_open(self):
        desk = Desk()
        desk.say("ring 0 a 1 a")
        for line, cares in (("open", ()), ("open stamp back", ("back", "stamp")), ("open older names number early back stamp",
                                                                                    ("back", "early", "names", "number", "older", "stamp"))):
            self.assertSame(desk.say(line), "ok")
            store = desk.played().store
            self.assertTrue(store == Store(desk.ring, desk.book, desk.lots, cares, 3))
            self.assertSame(desk.say("tell p"), "0")
        for line, word in (("open ", 1), ("open back back", 2), ("open back zzz back", 2), ("open stamp back stamp", 3)):
            self.assertRaisesJust(BadCommand(word), desk.say, line)
        self.assertSame(desk.say("clock"), "1")

    def test_a_play_goes_on_when_settings_change(self):
        desk = Desk()
        desk.say_all("ring 0 a 1 a 2 a", "lots 1 1 1 0", "open", "put p 0 5")
        player = desk.played()
        desk.say_all("ring 7 b", "lots 5 5 5 4", "book 1 : .", "come 9 a")
        self.assertTrue(desk.played() == player)
        self.assertSame(desk.say("calm"), "4")
        self.assertSame(desk.say("kept 0 0"), "1 p 0 5")
        self.assertSame(desk.say_all("open", "clock"), ("ok", "0"))
        self.assertSame(list(desk.played().store.ring), [(7, "b"), (9, "a")])

    def test_played_is_a_twin(self):
        desk = Desk()
        self.assertIs(desk.played(), None)
        desk.say_all("ring 0 a", "open", "tell p")
        one = desk.played()
        one.step(("tell", "q"))
        self.assertSame([one.clock, desk.say("clock"), desk.played().clock], [2, "1", 1])

    def test_undo_behind_begins(self):
        desk = Desk()
        desk.say_all("ring 0 a 1 a 2 a 3 a", "open", "begin go 1 turn 2 b come 9 c")
        self.assertSame(desk.say_all("epoch", "undo", "epoch", "clock"), ("1", "begin go 1 turn 2 b come 9 c", "0", "0"))
        self.assertRaisesJust(Nothing(), desk.say, "undo")

    def test_a_quarrel(self):
        desk = Desk()
        desk.say_all("ring 0 a 1 a 2 a 3 a", "book 3 : * 0", "lots 2 2 2 1", "open", "put p 0 7", "calm", "begin go 0")
        desk.say_all("get q 0", "tell q", "again q")
        self.assertSame(desk.say("order 0"), "0")
        run = Run(desk.played().store, desk.played().deeds, 0)
        self.assertIs(shows_run(run), False)
        weak = Desk()
        weak.say_all("ring 0 a 1 a", "book 2 : * 0", "lots 1 1 1 0", "open", "put p 0 7", "pass 0", "pass 2", "pass 3", "pass 5", "get q 0")
        letters = weak.say("letters").split(" ")
        weak.say_all(f"pass {letters[-1]}")
        weak.say_all(*[f"pass {number}" for number in [weak.say("letters").split(" ")[-1]]])
        weak.say("pass " + [letter for letter in weak.say("letters").split(" ")][-1])
        weak.say("pass " + weak.say("letters").split(" ")[-1])
        self.assertIn(weak.say("order 0"), ("quarrel lots - 0", "quarrel lots 0 -"))
        self.assertSame(weak.say("history 0"), "put p 0 4 ; get q 5 9 -")
        self.assertSame(weak.say("guard"), "no")

    def test_calm_is_all_or_nothing(self):
        desk = Desk()
        desk.say_all("ring 0 a 1 a 2 a", "open", *["settle"] * 1990, "put p 0 1")
        ahead = seen(desk)
        self.assertRaisesJust(TooMany("steps", 2000), desk.say, "calm")
        self.assertSame(seen(desk), ahead)
        self.assertSame([desk.say("ends p"), desk.say("clock")], ["yes", "1991"])
        wide = Desk()
        wide.say_all(" ".join(["ring", *[f"{place} a" for place in range(60)]]), "book 1 : * 0", "lots 1 1 1 0", "open early",
                     *[f"begin go {place}" for place in range(49)], "get p 0")
        ahead = seen(wide)
        self.assertRaisesJust(TooMany("rounds", 100), wide.say, "calm")
        self.assertSame(seen(wide), ahead)
        self.assertSame([desk.say("undo"), desk.say("calm")], ["put p 0 1", "0"])

    def test_errors_of_lines_of_a_play(self):
        desk = Desk()
        desk.say_all("ring 0 a 1 a", "open", "tell p")
        ahead = seen(desk)
        for line, error in (("pass 0", NoLetter(0)), ("fall 7", NoHost(7)), ("again p", Clashing("idle")), ("drop q", NoClient("q")),
                            ("begin go 7", BadChange(("go", 7))), ("begin come 0 a", Clashing("place")), ("kept 7 0", NoHost(7)),
                            ("ends p", Clashing("idle")), ("ends q", NoClient("q"))):
            self.assertRaisesJust(error, desk.say, line)
            self.assertSame(seen(desk), ahead)


class SayAll(Case):
    def test_an_error_at_each_place(self):
        lines = ("ring 0 a 1 a 2 a 3 a", "book 2 : * 0", "lots 2 2 2 1", "open back", "put p 7 5", "calm", "begin go 1", "come 9 b", "open",
                 "get q 3", "undo")
        for start in ((), ("ring 5 a", "open", "tell z")):
            for at in range(len(lines) + 1):
                for wrong, error in (("nothing", BadCommand(0)), ("copies", BadCommand(1)), ("turn 9 b c", BadCommand(3)), (None, BadCommand(0)),
                                     ("go 77", BadChange(("go", 77)))):
                    desk = Desk()
                    desk.say_all(*start)
                    ahead = seen(desk)
                    self.assertRaisesJust(error, desk.say_all, *lines[:at], wrong, *lines[at:])
                    self.assertSame(seen(desk), ahead)
                    if start:
                        self.assertSame(desk.say_all("clock", "tell z", "clock"), ("1", "0", "2"))
            desk = Desk()
            desk.say_all(*start)
            one = Desk()
            for line in start:
                one.say(line)
            self.assertSame(desk.say_all(*lines), tuple(one.say(line) for line in lines))
            self.assertSame(seen(desk), seen(one))
        self.assertSame(Desk().say_all(), ())


class WrongLines(Case):
    def test_words_of(self):
        self.assertSame([words_of(""), words_of("a  b "), words_of("clock\n"), words_of(line="come 5 a")],
                        [("",), ("a", "", "b", ""), ("clock\n",), ("come", "5", "a")])
        for value in NO_LINES:
            self.assertRaisesJust(BadCommand(0), words_of, value)
            self.assertRaisesJust(BadCommand(0), Desk().say, value)
            self.assertRaisesJust(BadCommand(0), Desk().say_all, value)

    def test_lines_that_want_a_play(self):
        for line in WITH_A_PLAY:
            self.assertRaisesJust(Nothing(), Desk().say, line)
            for more in (" ", " x", "\n"):
                try:
                    Desk().say(line + more)
                    self.fail(line + more)
                except OpenError as error:
                    self.assertIs(type(error), BadCommand, line + more)
        desk = Desk()
        desk.say_all("ring 0 a", "copies 0", "leaps 1", "bears 1", "falls", "stopped", "go 0")

    def test_drawn_lines(self):
        """The first word that cannot stand, by words that can, written anew."""
        made, counts, kinds = random.Random(9), {True: 0, False: 0}, line_kinds()
        desk = Desk()
        desk.say_all("ring 0 a 1 a", "open", "tell p")
        for line, can_stand, can_end in kinds:
            for _ in range(150):
                words = line.split(" ")
                for _ in range(made.choice((0, 1, 1, 2))):
                    at = made.randint(1, len(words))
                    words[at:at + made.choice((0, 1, 1))] = [] if made.random() < 0.3 else [made.choice((*WORDS, "back", "older"))]
                bad = first_bad(can_stand, can_end, words)
                counts[bad is None] += 1
                same, told = Desk(), " ".join(words)
                same.say_all("ring 0 a 1 a", "open", "tell p")
                try:
                    self.assertIs(type(same.say(told)), str)
                    self.assertIsNone(bad, told)
                except BadCommand as error:
                    self.assertSame(error.word, bad)
                    self.assertSame(seen(same), seen(desk))
                except OpenError:
                    self.assertIsNone(bad, told)
                    self.assertSame(seen(same), seen(desk))
        self.assertGreater(min(counts.values()), 1000)

    def test_first_words(self):
        for word in ("", "clocks", "Clock", "clock\n", "-", "0", "history\n", "play", "history0", "cares", "changes"):
            self.assertRaisesJust(BadCommand(0), Desk().say, word)
            self.assertRaisesJust(BadCommand(0), Desk().say, word + " 0")

    def test_books(self):
        for line, word in (("book", 1), ("book 3", 2), ("book 3 :", 3), ("book 3 : * 0 / ", 6), ("book 3 : b 0 , a 0", 6), ("book 3 : .\n", 3)):
            self.assertRaisesJust(BadCommand(word), Desk().say, line)

    def test_the_bounds_of_keys(self):
        desk = Desk()
        desk.say_all("open", "ring 0 a")
        for line in ("copies 1000000000", "kept 1000000000 0", "stopped 1000000000", "history 1000000000", "order 00", "leaps 0", "bears 4",
                     "ends P", "ends abcdefghi"):
            self.assertRaisesJust(BadCommand(1), desk.say, line)
        self.assertSame(desk.say_all(f"copies {LAST}", f"history {LAST}", f"order {LAST}"), ("0", "-", "-"))
        self.assertTrue(order_of(()) == Order(()))
        self.assertRaisesJust(BadNumber(None), Player(desk.played().store).history, None)


def line_kinds():
    """Lines of each kind, with what words can stand in them and where they can end, written anew."""
    def of(*tests):
        return (lambda ahead, word: len(ahead) <= len(tests) and (not ahead or tests[len(ahead) - 1](word)),
                lambda words: len(words) == 1 + len(tests))

    cares = ("back", "early", "names", "number", "older", "stamp")
    kinds = [("ring 0 a 10 b", ring_word, ring_end), ("lots 2 3 3 1", lots_word, lots_end)]
    kinds += [(line, step_word, step_end) for line in STEP_LINES]
    kinds += [(line, *of(is_place, is_name)) for line in ("come 5 a", "turn 1 b")] + [("go 1", *of(is_place))]
    kinds += [(line, *of(is_place)) for line in ("copies 0", "history 0", "order 0")]
    kinds += [(line, *of(lambda word: word in ("1", "2", "3"))) for line in ("leaps 1", "bears 2")]
    kinds += [(line, *of()) for line in ("falls", "undo", "clock", "epoch", "settled", "letters", "guard", "calm", "page")]
    kinds += [("kept 0 0", *of(is_place, is_place)), ("ends p", *of(is_name))]
    kinds.append(("stopped 0 1 0", lambda ahead, word: not ahead or is_place(word), lambda words: True))
    kinds.append(("open back stamp", lambda ahead, word: not ahead or word in cares and word not in ahead, lambda words: True))
    return kinds


if __name__ == "__main__":
    unittest.main()
