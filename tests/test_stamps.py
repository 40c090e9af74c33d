"""What hosts keep, and letters: stayopen/stamps.py, stayopen/letters.py."""

import itertools
import unittest

from stayopen.letters import Letter
from stayopen.stamps import Kept, greatest, is_greater, nothing
from tests.helpers import Case

STAMPS = ((0, ""), (1, "a"), (1, "ab"), (1, "b"), (2, "a"), (10, "a"), (10 ** 41, "z"))


class Stamps(Case):
    def test_nothing(self):
        self.assertSame(vars(nothing()), {"stamp": (0, ""), "put": None, "value": None})
        self.assertIs(nothing() == nothing(), True)
        self.assertIs(nothing() == Kept((0, ""), None, 0), False)

    def test_is_greater(self):
        for one, other in itertools.product(STAMPS, STAMPS):
            ours, theirs = Kept(one, 5, 9), Kept(other, 6, -9)
            self.assertIs(is_greater(ours, theirs), one > other)
            self.assertIs(is_greater(ours, theirs, True), one > other)
            self.assertIs(is_greater(ours, theirs, False), one[0] > other[0])
            self.assertIs(is_greater(names=False, other=theirs, one=ours), one[0] > other[0])

    def test_greatest(self):
        for many in (1, 2, 3):
            for stamps in itertools.product(STAMPS, repeat=many):
                kepts = [Kept(stamp, at, 0) for at, stamp in enumerate(stamps)]
                for names, key in ((True, lambda stamp: stamp), (False, lambda stamp: stamp[0])):
                    told = [key(stamp) for stamp in stamps]
                    wanted = kepts[told.index(max(told))]
                    self.assertIs(greatest(kepts, names), wanted)
                    self.assertIs(greatest(tuple(kepts), names=names), wanted)
                self.assertIs(greatest(kepts), greatest(kepts, True))
        self.assertSame(len(kepts), 3)


class Letters(Case):
    def test_letters(self):
        parts = (0, 1, 0, 5, Kept((1, "p"), 0, 7))
        letter = Letter(3, "p", 10, "keep", parts)
        self.assertSame(vars(letter), {"number": 3, "sender": "p", "receiver": 10, "word": "keep", "parts": parts})
        self.assertIs(letter == Letter(parts=parts, word="keep", receiver=10, sender="p", number=3), True)
        self.assertIs(letter == Letter(3, "p", 10, "keep", (0, 1, 0, 5, Kept((1, "p"), 0, 8))), False)


if __name__ == "__main__":
    unittest.main()
