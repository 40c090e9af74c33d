"""What holds for all papers: attributes, copies all the way in, equality, bool."""

import unittest

from stayopen.alike_books import Alike, Beyond, Unlike, Within
from stayopen.bears import Bears, Breaks
from stayopen.books import Book
from stayopen.calm import Calm
from stayopen.ends import Ends, Stuck
from stayopen.falls import Falls
from stayopen.four_lots import Right, Wrong
from stayopen.guards import Gap, Guard
from stayopen.leaps import Leaps
from stayopen.least_books import Lessened
from stayopen.letters import Letter
from stayopen.nested import Exchange
from stayopen.orders import Order, Quarrel
from stayopen.placing import Best
from stayopen.player import Asking
from stayopen.runs import Run
from stayopen.stamps import Kept
from stayopen.steady import Leaping, Steady
from stayopen.verdicts import Verdict
from tests.helpers import STRANGE, Case

# Each paper with its parameters, and what bool tells of it.
PAPERS = (
    (Alike, ("pairs",), True), (Unlike, ("word",), False), (Within, ("pairs",), True), (Beyond, ("word",), False),
    (Lessened, ("least", "lots", "parted"), True), (Best, ("place", "height", "floors"), True),
    (Exchange, ("gone", "new", "kept"), True), (Leaps, ("triples", "table"), True), (Steady, ("table",), True),
    (Leaping, ("ring", "change"), False), (Bears, ("table",), True),
    (Breaks, ("ring", "changes", "kept", "heard"), False), (Right, ("idle",), True), (Wrong, ("word",), False),
    (Kept, ("stamp", "put", "value"), True), (Letter, ("number", "sender", "receiver", "word", "parts"), True),
    (Asking, ("ask", "word", "key", "epoch", "stage", "attempt", "kept", "noted"), True),
    (Order, ("indexes",), True), (Quarrel, ("word", "one", "other"), False), (Guard, ("rows",), True),
    (Gap, ("key", "epoch", "word", "places"), False), (Run, ("store", "steps", "key"), True),
    (Ends, ("steps",), True), (Stuck, ("rows",), False), (Falls, ("many", "places", "key"), True),
    (Calm, ("steps", "rounds"), True),
)
VERDICTS = (Alike, Unlike, Within, Beyond, Steady, Leaping, Bears, Breaks, Right, Wrong,
            Order, Quarrel, Guard, Gap, Ends, Stuck)


class Papers(Case):
    def test_attributes_and_bool(self):
        for made, names, answer in PAPERS:
            for value in STRANGE:
                values = [value, *range(1, len(names))]
                paper = made(*values)
                self.assertSame(vars(paper), dict(zip(names, values)))
                self.assertSame(vars(made(**dict(zip(names, values)))), dict(zip(names, values)))
                self.assertIs(bool(paper), answer)
            self.assertIs(issubclass(made, Verdict), made in VERDICTS)

    def test_copies_all_the_way_in(self):
        book = Book({})
        for made, names, _ in PAPERS:
            for at in range(len(names)):
                value = [1, ({"a": [2, {"b": (book, [3])}]},)]
                values = [0] * len(names)
                values[at] = value
                paper = made(*values)
                value[1][0]["a"][1]["b"][1].append(4)
                value[1][0]["a"].append(5)
                value[1][0]["c"] = 6
                value.append(7)
                self.assertSame(getattr(paper, names[at]), [1, ({"a": [2, {"b": (book, [3])}]},)])
                self.assertIs(getattr(paper, names[at])[1][0]["a"][1]["b"][0], book)

    def test_equality(self):
        for made, names, _ in PAPERS:
            values = [(at, [at]) for at in range(len(names))]
            paper = made(*values)
            self.assertIs(paper == made(*values), True)
            self.assertIs(paper != made(*values), False)
            # As Python compares them: 1 is equal to True, a tuple is not equal to a list.
            self.assertIs(made(*[1] * len(names)) == made(*[True] * len(names)), True)
            for at in range(len(names)):
                other = [*values[:at], [*values[at]], *values[at + 1:]]
                self.assertIs(paper == made(*other), False)
                self.assertIs(paper != made(*other), True)
            for value in (*STRANGE, values, tuple(values), Book({})):
                self.assertIs(paper == value, False)
                self.assertIs(paper != value, True)

    def test_papers_of_unlike_classes(self):
        for one, names, _ in PAPERS:
            for other, others, _ in PAPERS:
                if one is not other and len(names) == len(others):
                    self.assertIs(one(*names) == other(*names), False)
                    self.assertIs(one(*names) != other(*names), True)


if __name__ == "__main__":
    unittest.main()
