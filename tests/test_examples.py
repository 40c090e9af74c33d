"""The examples of the document, in its order, with just the values and errors told there."""

import ast
import os
import unittest

from stayopen import errors
from tests.helpers import Case

HERE = os.path.dirname(os.path.abspath(__file__))
FILES = ("examples_stage_1.txt", "examples_stage_2.txt", "examples_stage_3.txt", "examples_stage_4.txt",
         "examples_stage_5.txt", "examples_stage_6.txt")


def read_examples():
    """The lines of all examples as pairs (line of code, what is told below it or None)."""
    told = []
    for name in FILES:
        with open(os.path.join(HERE, name), encoding="utf-8") as file:
            for line in file.read().split("\n"):
                if line.startswith(">>> "):
                    told.append([line[4:], None])
                elif line and not line.startswith("## "):
                    told[-1][1] = line
    return told


class Examples(Case):
    def test_examples(self):
        names = {}
        seen = 0  # so that a file with fewer lines does not pass
        for code, wanted in read_examples():
            seen += 1
            with self.subTest(code):
                if wanted is None:
                    exec(code, names)
                elif wanted.startswith("raises "):
                    error = eval(wanted[len("raises "):], dict(vars(errors)))
                    self.assertRaisesJust(error, eval, code, names)
                else:
                    self.assertSame(eval(code, names), ast.literal_eval(wanted))
        self.assertEqual(seen, 261)


if __name__ == "__main__":
    unittest.main()
