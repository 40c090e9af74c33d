"""The names of the interface, the files that define them, and the names of their arguments."""

import importlib
import inspect
import unittest

from tests.helpers import Case

FUNCTIONS = {
    "checks": ("is_integer(value)", "is_within(value, least, most)", "is_name(value)", "is_place(value)"),
    "books": ("classes(*books)",),
    "least_books": ("rows(book)", "least(book)", "lessened(book)"),
    "alike_books": ("alike(one, other)", "within(one, other)"),
    "look_books": ("shows_alike(one, other, value)", "shows_within(one, other, value)",
                   "shows_lessened(book, value)"),
    "walks": ("walk(ring, key)", "copies(book, ring, key)", "met(book, ring, key)"),
    "arcs": ("arcs(book, ring)", "keys_of(book, ring, place)", "loads(book, ring)"),
    "moves": ("moves(book, one, other)", "keys_moved(book, one, other)", "keys_new(book, one, other)"),
    "placing": ("best_place(book, ring, name)",),
    "look_placing": ("shows_best(book, ring, name, value)",),
    "nested": ("is_nested(quotas)", "room(quotas)", "most_taken(quotas, *names)",
               "exchange(quotas, ring, change, key)"),
    "shares": ("shares(book, *names)", "counts(book, *names)"),
    "moved": ("moved_chances(book, name, *names)", "turned_chances(book, one, other, *names)"),
    "pairs": ("rows_of(book, changes=1)", "is_closed(book, table, changes=1)"),
    "leaps": ("leaps(book, changes=1)", "leap_at(book, ring, key, *changes)", "most_gone(book, changes=1)"),
    "look_leaps": ("shows_leaps(book, value, changes=1)",),
    "steady": ("steady(book)", "shows_steady(book, value)"),
    "lots": ("is_idle(book, lots)",),
    "bears": ("bears(book, read, keep, changes=1)", "greatest_sum(book, read, keep, changes=1)",
              "frontier(book, changes=1)", "stopping(book)", "price(book, changes=1)", "fewest(falls, changes=1)"),
    "look_bears": ("shows_bears(book, read, keep, value, changes=1)",),
    "four_lots": ("four(quotas, lots)",),
    "stamps": ("nothing()", "is_greater(one, other, names=True)", "greatest(kepts, names=True)"),
    "steps": ("is_step(value)",),
    "histories": ("parts(asks)", "zones(asks)"),
    "orders": ("order_of(asks)", "surely(asks, one, other)", "tellable(asks)"),
    "look_orders": ("shows_order(asks, value)",),
    "guards": ("guard(player)",),
    "look_guards": ("shows_guard(player, value)",),
    "two_gets": ("two_gets(player, gap)",),
    "runs": ("shows_run(value)",),
    "breaking": ("breaking(book, lots, changes=1)",),
    "nested_breaks": ("nested_break(quotas, lots)",),
    "careless": ("careless(quotas, lots, care)",),
    "ends": ("ends(player, client)", "shows_ends(player, client, value)"),
    "blocked": ("blocked(book, one, other, lots, *fallen)",),
    "falls": ("stopped(book, ring, lots, *fallen)", "bears_falls(book, ring, lots)", "shows_falls(book, ring, lots, value)",
              "chance(book, ring, lots, key, many)", "all_go(book, ring, lots, many)"),
    "calm": ("calm(player, most=100)", "shows_calm(player, value)"),
    "texts": ("ring_line(ring)", "lots_line(lots)", "step_line(step)", "ask_line(ask)", "history_page(asks)",
              "play_page(player)"),
    "reader": ("read_ring(text)", "read_lots(text)", "read_step(text)", "read_ask(text)", "read_history(text)",
               "read_play(text)"),
    "desk_lines": ("words_of(line)",),
}
CLASSES = {
    "verdicts": {"Verdict": ()},
    "books": {"Book": ("__init__(self, *states, most=3)", "step(self, state, name)", "takes(self, *names)",
                       "__and__(self, other)", "__eq__(self, other)", "__str__(self)")},
    "least_books": {"Lessened": ("__init__(self, least, lots, parted)", "__eq__(self, other)")},
    "alike_books": {"Alike": ("__init__(self, pairs)", "__bool__(self)", "__eq__(self, other)"),
                    "Unlike": ("__init__(self, word)", "__bool__(self)", "__eq__(self, other)"),
                    "Within": ("__init__(self, pairs)", "__bool__(self)", "__eq__(self, other)"),
                    "Beyond": ("__init__(self, word)", "__bool__(self)", "__eq__(self, other)")},
    "quotas": {"Quotas": ("__init__(self, *pairs, most=3)", "takes(self, *names)", "as_book(self)",
                          "__add__(self, other)", "__eq__(self, other)", "__str__(self)")},
    "rings": {"Ring": ("__init__(self, *hosts)", "changed(self, *changes)", "changed_by(self, changes)",
                       "changes_to(self, other)", "__iter__(self)", "__len__(self)", "__bool__(self)",
                       "__eq__(self, other)", "__contains__(self, place)", "__getitem__(self, place)",
                       "__add__(self, host)", "__sub__(self, place)", "__rshift__(self, n)")},
    "placing": {"Best": ("__init__(self, place, height, floors)", "__eq__(self, other)")},
    "nested": {"Exchange": ("__init__(self, gone, new, kept)", "__eq__(self, other)")},
    "leaps": {"Leaps": ("__init__(self, triples, table)", "__eq__(self, other)")},
    "steady": {"Steady": ("__init__(self, table)", "__bool__(self)", "__eq__(self, other)"),
               "Leaping": ("__init__(self, ring, change)", "__bool__(self)", "__eq__(self, other)")},
    "lots": {"Lots": ("__init__(self, read, keep, sweep=None, spare=None)", "__eq__(self, other)", "__str__(self)")},
    "bears": {"Bears": ("__init__(self, table)", "__bool__(self)", "__eq__(self, other)"),
              "Breaks": ("__init__(self, ring, changes, kept, heard)", "__bool__(self)", "__eq__(self, other)")},
    "four_lots": {"Right": ("__init__(self, idle)", "__bool__(self)", "__eq__(self, other)"),
                  "Wrong": ("__init__(self, word)", "__bool__(self)", "__eq__(self, other)")},
    "stamps": {"Kept": ("__init__(self, stamp, put, value)", "__eq__(self, other)")},
    "letters": {"Letter": ("__init__(self, number, sender, receiver, word, parts)", "__eq__(self, other)")},
    "hosts": {"Host": ("__init__(self, place)", "kept(self, key)", "answered(self, word, parts, cares=())",
                       "__contains__(self, key)", "__iter__(self)", "__len__(self)", "__bool__(self)",
                       "__eq__(self, other)")},
    "store": {"Store": ("__init__(self, ring, book, lots, cares=(), changes=1)", "__eq__(self, other)")},
    "histories": {"Ask": ("__init__(self, client, word, begun, ended=None, told=None)", "is_ahead(self, other)",
                          "__eq__(self, other)")},
    "orders": {"Order": ("__init__(self, indexes)", "__bool__(self)", "__eq__(self, other)"),
               "Quarrel": ("__init__(self, word, one, other)", "__bool__(self)", "__eq__(self, other)")},
    "guards": {"Guard": ("__init__(self, rows)", "__bool__(self)", "__eq__(self, other)"),
               "Gap": ("__init__(self, key, epoch, word, places)", "__bool__(self)", "__eq__(self, other)")},
    "runs": {"Run": ("__init__(self, store, steps, key)", "played(self)", "end(self)", "__eq__(self, other)")},
    "ends": {"Ends": ("__init__(self, steps)", "__bool__(self)", "__eq__(self, other)"),
             "Stuck": ("__init__(self, rows)", "__bool__(self)", "__eq__(self, other)")},
    "falls": {"Falls": ("__init__(self, many, places, key)", "__eq__(self, other)")},
    "calm": {"Calm": ("__init__(self, steps, rounds)", "__eq__(self, other)")},
    "desk": {"Desk": ("__init__(self)", "say(self, line)", "say_all(self, *lines)", "played(self)")},
    "player": {"Asking": ("__init__(self, ask, word, key, epoch, stage, attempt, kept, noted)", "__eq__(self, other)"),
               "Player": ("__init__(self, store)", "step(self, step)", "run(self, *steps)", "undo(self)",
                          "attempt(self, step)", "trial(self)", "tried(self, work)", "twin(self)", "__eq__(self, other)",
                          "ring_of(self, epoch)", "copies_of(self, key, epoch)", "host(self, place)",
                          "known(self, client)", "asking(self, client)", "letters(self)", "letter(self, number)",
                          "history(self, key)", "answer(self, ask)", "swept(self, epoch)", "fenced(self, epoch)")},
}


class Interface(Case):
    def test_functions(self):
        for module, told in FUNCTIONS.items():
            names = importlib.import_module(f"stayopen.{module}")
            for line in told:
                function = getattr(names, line.split("(")[0])
                self.assertEqual(function.__module__, f"stayopen.{module}")
                self.assertEqual(function.__name__ + str(inspect.signature(function)), line)

    def test_classes(self):
        for module, told in CLASSES.items():
            names = importlib.import_module(f"stayopen.{module}")
            for name, lines in told.items():
                made = getattr(names, name)
                self.assertEqual(made.__module__, f"stayopen.{module}")
                for line in lines:
                    method = vars(made)[line.split("(")[0]]
                    self.assertEqual(method.__name__ + str(inspect.signature(method)), line)

    def test_properties_and_methods_of_classes(self):
        books = importlib.import_module("stayopen.books")
        for name in ("states", "room"):
            self.assertIs(type(vars(books.Book)[name]), property)
        players = importlib.import_module("stayopen.player")
        for name in ("deeds", "clock", "is_settled", "clients", "fallen"):
            self.assertIs(type(vars(players.Player)[name]), property)
        quotas = importlib.import_module("stayopen.quotas")
        rings = importlib.import_module("stayopen.rings")
        for made in (books.Book, quotas.Quotas):
            self.assertIs(type(vars(made)["from_text"]), classmethod)
            self.assertEqual(str(inspect.signature(made.from_text)), "(text)")
        self.assertIs(type(vars(rings.Ring)["of"]), staticmethod)
        self.assertEqual(str(inspect.signature(rings.Ring.of)), "(hosts)")


if __name__ == "__main__":
    unittest.main()
