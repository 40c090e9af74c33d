"""Lines and pages: stayopen/texts.py, stayopen/reader.py."""

import random
import re
import unittest

from stayopen.books import Book
from stayopen.errors import BadBook, BadText, TooMany
from stayopen.histories import Ask
from stayopen.lots import Lots
from stayopen.player import Player
from stayopen.reader import read_ask, read_history, read_lots, read_play, read_ring, read_step
from stayopen.rings import Ring
from stayopen.steps import STEPS, is_step
from stayopen.store import Store
from stayopen.texts import ask_line, history_page, lots_line, play_page, ring_line, step_line
from tests.helpers import STRANGE, Case
from tests.scenes import plain_player
from tests.slow_store import seen_of_player
from tests.test_calm import drawn_play
from tests.test_histories import drawn_asks

LAST = 999999999
MOST = 10 ** 40 - 1
NO_TEXTS = [value for value in STRANGE if not isinstance(value, str)]
STEP_LINES = {
    "put p 7 5": ("put", "p", 7, 5), "put abcdefgh 0 -1": ("put", "abcdefgh", 0, -1), "get p 999999999": ("get", "p", LAST),
    f"put p 0 {MOST}": ("put", "p", 0, MOST), f"put p 0 -{MOST}": ("put", "p", 0, -MOST), "put p 0 0": ("put", "p", 0, 0),
    "tell p": ("tell", "p"), "again zoe": ("again", "zoe"), "drop p": ("drop", "p"), "pass 3": ("pass", 3),
    f"twin {MOST}": ("twin", MOST), "lose 0": ("lose", 0), "fall 10": ("fall", 10), "settle": ("settle",),
    "begin go 1": ("begin", ("go", 1)), "begin come 0 a turn 999999999 zz": ("begin", ("come", 0, "a"), ("turn", LAST, "zz")),
    "begin go 1 come 9 a turn 2 b": ("begin", ("go", 1), ("come", 9, "a"), ("turn", 2, "b")),
    "begin go 1 go 1 go 1": ("begin", ("go", 1), ("go", 1), ("go", 1)),
}
ASK_LINES = {
    "put p 0 4": Ask("p", "put", 0, 4), "get q 5 8 0": Ask("q", "get", 5, 8, 0), "get q 9 -": Ask("q", "get", 9),
    "put p 3 -": Ask("p", "put", 3), "get q 5 8 -": Ask("q", "get", 5, 8), f"get q 0 {MOST} {MOST}": Ask("q", "get", 0, MOST, MOST),
    f"put p {MOST - 1} {MOST}": Ask("p", "put", MOST - 1, MOST), f"put p {MOST} -": Ask("p", "put", MOST),
}
LOTS_LINES = {"lots 2 3 3 1": Lots(2, 3), "lots 1 1 1 0": Lots(1, 1), "lots 5 5 5 4": Lots(5, 5), "lots 1 2 5 4": Lots(1, 2, 5, 4)}
RING_LINES = {"ring": Ring(), "ring 0 a 10 b": Ring((10, "b"), (0, "a")), "ring 999999999 abcdefgh": Ring((LAST, "abcdefgh"))}


# Which words can stand, written anew: for each kind of line, whether a word can stand behind those ahead of it, and
# whether the line can end behind some words.

def is_name(word):
    return re.fullmatch("[a-z]{1,8}", word) is not None


def is_whole(word, most=MOST):
    return re.fullmatch("0|[1-9][0-9]*", word) is not None and len(word) <= 45 and int(word) <= most


def is_value(word):
    return is_whole(word) or (re.fullmatch("-[1-9][0-9]*", word) is not None and is_whole(word[1:]))


def is_place(word):
    return is_whole(word, LAST)


def ring_word(ahead, word):
    if not ahead:
        return word == "ring"
    if len(ahead) % 2 == 0:
        return is_name(word)
    return is_place(word) and (len(ahead) == 1 or int(word) > int(ahead[-2]))


def ring_end(words):
    return len(words) % 2 == 1


def lots_word(ahead, word):
    if len(ahead) in (0, 5):
        return not ahead and word == "lots"
    return word in tuple("12345" if len(ahead) < 4 else "01234")


def lots_end(words):
    return len(words) == 5


PLAIN_STEPS = {"put": (is_name, is_place, is_value), "get": (is_name, is_place), "tell": (is_name,), "again": (is_name,),
               "drop": (is_name,), "pass": (is_whole,), "twin": (is_whole,), "lose": (is_whole,), "fall": (is_place,), "settle": ()}
CHANGES = {"come": 3, "go": 2, "turn": 3}


def changes_of(words):
    """The changes of the words behind begin, the last one perhaps too short."""
    told = []
    for word in words:
        if not told or len(told[-1]) == CHANGES[told[-1][0]]:
            told.append([])
        told[-1].append(word)
    return told


def step_word(ahead, word):
    if not ahead:
        return word in STEPS
    if ahead[0] != "begin":
        kinds = PLAIN_STEPS[ahead[0]]
        return len(ahead) <= len(kinds) and kinds[len(ahead) - 1](word)
    told = changes_of(ahead[1:])
    if not told or len(told[-1]) == CHANGES[told[-1][0]]:
        return len(told) < 3 and word in CHANGES
    return is_place(word) if len(told[-1]) == 1 else is_name(word)


def step_end(words):
    if words[0] != "begin":
        return len(words) == 1 + len(PLAIN_STEPS[words[0]])
    told = changes_of(words[1:])
    return bool(told) and len(told[-1]) == CHANGES[told[-1][0]]


def ask_word(ahead, word):
    if len(ahead) < 3:
        return (word in ("put", "get"), is_name(word), is_whole(word))[len(ahead)] if ahead else word in ("put", "get")
    if len(ahead) == 3:
        return word == "-" or (is_whole(word) and int(word) > int(ahead[2]))
    return len(ahead) == 4 and ahead[0] == "get" and ahead[3] != "-" and (word == "-" or is_whole(word))


def ask_end(words):
    return len(words) == (5 if words[0] == "get" and len(words) > 3 and words[3] != "-" else 4)


def first_bad(can_stand, can_end, words):
    """The index of the first word that cannot stand, the number of the words if one is missing, None if all is well."""
    for at, word in enumerate(words):
        if not can_stand(words[:at], word):
            return at
    return None if can_end(words) else len(words)


KINDS = (
    (read_ring, ring_line, RING_LINES, ring_word, ring_end), (read_lots, lots_line, LOTS_LINES, lots_word, lots_end),
    (read_step, step_line, STEP_LINES, step_word, step_end), (read_ask, ask_line, ASK_LINES, ask_word, ask_end),
)
WORDS = ("", "ring", "lots", "put", "get", "begin", "come", "go", "turn", "settle", "pass", "p", "zz", "abcdefghi", "A", "a1", "-", "0",
         "1", "5", "6", "00", "01", "-0", "-1", "+1", "1.0", "1_0", "10", "999999999", "1000000000", str(MOST), str(MOST + 1),
         f"-{MOST}", f"-{MOST + 1}", "9" * 5000, "a\n", "\n", "1\n", "None", "history", "*")


class OneLine(Case):
    def test_there_and_back(self):
        for read, write, lines, _, _ in KINDS:
            for line, told in lines.items():
                self.assertSame(read(line), told)
                self.assertSame(write(told), line)

    def test_what_is_no_string(self):
        for read in (read_ring, read_lots, read_step, read_ask, read_history, read_play):
            for value in NO_TEXTS:
                self.assertRaisesJust(BadText(0, 0), read, value)

    def test_drawn_lines(self):
        made, counts = random.Random(5), {True: 0, False: 0}
        for read, write, lines, can_stand, can_end in KINDS:
            for _ in range(4000):
                words = made.choice(sorted(lines)).split(" ")
                for _ in range(made.choice((1, 1, 1, 2, 3))):
                    at = made.randint(0, len(words))
                    more = [] if made.random() < 0.3 else [made.choice(WORDS)]
                    words[at:at + made.choice((0, 1, 1))] = more
                words = words or [""]
                bad, line = first_bad(can_stand, can_end, words), " ".join(words)
                counts[bad is None] += 1
                if bad is None:
                    self.assertSame(write(read(line)), line)
                else:
                    self.assertRaisesJust(BadText(0, bad), read, line)
        self.assertGreater(min(counts.values()), 500)

    def test_rings(self):
        made = random.Random(1)
        for many in (0, 1, 5, 99, 100):
            places = sorted(made.sample(range(LAST), many))
            ring = Ring(*[(place, made.choice(("a", "b", "zz"))) for place in places])
            self.assertTrue(read_ring(ring_line(ring)) == ring)
        words = [f"{place} a" for place in range(101)]
        self.assertRaisesJust(TooMany("hosts", 100), read_ring, " ".join(["ring", *words]))
        # Words come first.
        self.assertRaisesJust(BadText(0, 203), read_ring, " ".join(["ring", *words, "7 a"]))

    def test_steps_of_all_words(self):
        self.assertEqual({step[0] for step in STEP_LINES.values()}, set(STEPS))
        for step in STEP_LINES.values():
            self.assertTrue(is_step(step))


class Histories(Case):
    def test_there_and_back(self):
        for seed in range(200):
            asks = drawn_asks(seed)
            page = history_page(asks)
            told = read_history(page)
            self.assertIs(type(told), list)
            self.assertTrue(told == asks)
            self.assertSame([history_page(told), history_page(tuple(asks))], [page, page])
        self.assertSame([history_page([]), read_history("history")], ["history", []])
        self.assertSame(history_page([ASK_LINES["put p 0 4"], ASK_LINES["get q 9 -"]]), "history\nput p 0 4\nget q 9 -")

    def test_the_list_belongs_to_the_caller(self):
        asks = [ASK_LINES["put p 0 4"]]
        page = history_page(asks)
        told = read_history(page)
        told.append(None)
        asks.clear()
        self.assertSame([len(read_history(page)), page], [1, "history\nput p 0 4"])

    def test_a_list_of_asks_may_be_no_history(self):
        self.assertTrue(read_history("history\nget q 0 1 7") == [Ask("q", "get", 0, 1, 7)])

    def test_a_long_page(self):
        asks = [Ask("p", "put", at) for at in range(2009)]
        self.assertTrue(read_history(history_page(asks)) == asks)

    def test_errors(self):
        for page, line, word in (("", 0, 0), ("historys", 0, 0), ("history ", 0, 1), (" history", 0, 0), ("history put", 0, 1),
                                 ("put p 0 4", 0, 0), ("history\n", 1, 0), ("history\nput p 0 4\n", 2, 0), ("\nhistory", 0, 0),
                                 ("history\nput p 0 4\nget q 3 3\nput", 2, 3), ("history\nput p 0 4 0", 1, 4),
                                 ("history\nget q 5 8", 1, 4), ("history\nget q 5 - -", 1, 4), ("history\n\nput", 1, 0)):
            self.assertRaisesJust(BadText(line, word), read_history, page)


HEAD = ("play", "book 3 : * 0", "ring 0 a 10 b 20 a 30 c", "lots 2 3 3 1", "cares", "changes 1")


def page_with(at, line, *steps):
    """A page of a play with another line at an index."""
    lines = [*HEAD, *steps]
    lines[at:at + 1] = [line]
    return "\n".join(lines)


class Plays(Case):
    def test_there_and_back(self):
        for seed in range(60):
            player, _ = drawn_play(70000 + seed, 10 + seed)
            page = play_page(player)
            again = read_play(page)
            self.assertTrue(again == player)
            self.assertSame(seen_of_player(again), seen_of_player(player))
            self.assertSame(play_page(again), page)

    def test_the_lines(self):
        store = Store(Ring((0, "a"), (5, "b")), Book({"a": 0, "": 1}, {"": None}, most=2), Lots(1, 2), ("stamp", "back"), 2)
        player = Player(store)
        player.run(("put", "p", 7, -3), ("begin", ("go", 0), ("turn", 5, "c")), ("pass", 0), ("settle",))
        player.undo()
        self.assertSame(play_page(player), "\n".join(
            ["play", "book 2 : a 0 , * 1 / * -", "ring 0 a 5 b", "lots 1 2 2 0", "cares back stamp", "changes 2", "put p 7 -3",
             "begin go 0 turn 5 c", "pass 0"]))
        # The ring is that of the epoch 0.
        self.assertTrue(read_play(play_page(player)).store == store)

    def test_cares(self):
        for cares in ((), ("back",), ("back", "early", "names", "number", "older", "stamp")):
            player = plain_player(cares=cares)
            self.assertTrue(read_play(play_page(player)) == player)
        for line, word in (("cares ", 1), ("cares back back", 2), ("cares stamp back", 2), ("cares back stamp early", 3), ("cares zzz back", 1),
                           ("cares back zzz early", 2), ("care", 0), ("cares back early back", 3), ("", 0)):
            self.assertRaisesJust(BadText(4, word), read_play, page_with(4, line))

    def test_lines_that_cannot_stand(self):
        for at, line, word in ((0, "plays", 0), (0, "play ", 1), (0, "play book", 1), (1, "book 3 : * 0 ,", 6), (1, "ring", 0),
                               (1, "book 03 : * 0", 1), (1, "book 3 : * 0 / * 1 * 2", 8), (2, "ring 10 a 5 b", 3), (2, "lots 2 3 3 1", 0),
                               (3, "lots 2 3 3", 4), (3, "lots 2 3 3 5", 4), (3, "lots 0 3 3 1", 1), (3, "lots 2 3 3 1 1", 5),
                               (5, "changes", 1), (5, "changes 0", 1), (5, "changes 4", 1), (5, "changes 1 1", 2), (5, "change 1", 0),
                               (5, "changes 01", 1)):
            self.assertRaisesJust(BadText(at, word), read_play, page_with(at, line, "put p 0 1", "no step"))

    def test_missing_lines(self):
        for many in range(len(HEAD)):
            self.assertRaisesJust(BadText(many, 0) if many else BadText(0, 0), read_play, "\n".join(HEAD[:many]))
        self.assertSame(read_play("\n".join(HEAD)).deeds, ())
        self.assertRaisesJust(BadText(len(HEAD), 0), read_play, "\n".join(HEAD) + "\n")
        # The first line that is wrong comes ahead of a missing one.
        self.assertRaisesJust(BadText(2, 0), read_play, "play\nbook 3 : * 0\nrings")

    def test_steps_that_are_refused(self):
        page = "\n".join([*HEAD, "put p 0 1", "put p 0 2", "no step"])
        self.assertRaisesJust(BadText(7, 0), read_play, page)
        self.assertRaisesJust(BadText(8, 0), read_play, "\n".join([*HEAD, "put p 0 1", "pass 0", "no step", "put p 0 2"]))
        self.assertRaisesJust(BadText(6, 2), read_play, "\n".join([*HEAD, "put p", "pass 0"]))
        self.assertRaisesJust(BadText(6, 0), read_play, "\n".join([*HEAD, "begin go 0 go 10"]))
        full = "\n".join([*HEAD, *["settle"] * 2000])
        self.assertSame(read_play(full).clock, 2000)
        self.assertRaisesJust(BadText(2006, 0), read_play, full + "\nsettle")

    def test_what_the_classes_raise(self):
        wide = " ".join(["ring", *[f"{place} a" for place in range(101)]])
        tall = " / ".join(["book 3 : ."] + ["."] * 64)
        for at, line, error in ((1, "book 3 : * 1", BadBook("next")), (1, "book 6 : * 0", BadBook("most")),
                                (1, "book 0 : .", BadBook("most")), (1, tall, BadBook("states")),
                                (1, f"book 3 : * {10 ** 41 - 1}", BadBook("next")), (2, wide, TooMany("hosts", 100))):
            self.assertRaisesJust(error, read_play, page_with(at, line))
            # Refused steps are not looked at then, but each step's words are.
            self.assertRaisesJust(error, read_play, page_with(at, line, "pass 7", "put p 0 1"))
            self.assertRaisesJust(BadText(8, 1), read_play, page_with(at, line, "pass 7", "put p 0 1", "pass p"))
            self.assertRaisesJust(BadText(3, 1), read_play, page_with(at, line).replace(HEAD[3], "lots 7"))
        both = page_with(1, "book 3 : * 1").replace(HEAD[2], wide)
        self.assertRaisesJust(BadBook("next"), read_play, both)


if __name__ == "__main__":
    unittest.main()
