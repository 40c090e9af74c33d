"""Errors and the base of verdicts: stayopen/errors.py, stayopen/verdicts.py."""

import unittest

from stayopen import errors
from stayopen.alike_books import Alike, Beyond, Unlike, Within
from stayopen.verdicts import Verdict
from tests.helpers import STRANGE, Case

PARAMETERS = {
    "BadName": ("value",), "BadNumber": ("value",), "BadBook": ("part",), "BadQuota": ("part",),
    "BadRing": ("part",), "BadChange": ("value",), "BadLots": ("part",), "BadCare": ("value",),
    "BadStep": ("value",), "BadAsk": ("part",), "BadPlayer": ("part",), "BadText": ("line", "word"),
    "BadCommand": ("word",), "NoHost": ("place",), "NoLetter": ("number",), "NoClient": ("name",),
    "NoEpoch": ("number",), "Clashing": ("part",), "Nothing": (), "TooMany": ("what", "most"),
}


class Errors(Case):
    def test_all_stand_directly_below_the_base(self):
        self.assertEqual(errors.OpenError.__bases__, (ValueError,))
        for name in PARAMETERS:
            self.assertEqual(getattr(errors, name).__bases__, (errors.OpenError,), name)
            self.assertEqual(getattr(errors, name).__module__, "stayopen.errors")

    def test_arguments_are_kept_by_position_and_by_name(self):
        for name, parameters in PARAMETERS.items():
            made = getattr(errors, name)
            for value in STRANGE:
                values = [value, "second"][:len(parameters)]
                wanted = dict(zip(parameters, values))
                self.assertSame(vars(made(*values)), wanted)
                self.assertSame(vars(made(**wanted)), wanted)

    def test_what_is_done_to_an_argument_changes_no_error(self):
        for name, parameters in PARAMETERS.items():
            for at, parameter in enumerate(parameters):
                value = [1, ({"a": [2]},)]
                values = [0] * len(parameters)
                values[at] = value
                error = getattr(errors, name)(*values)
                value[1][0]["a"].append(3)
                value.append(4)
                self.assertSame(getattr(error, parameter), [1, ({"a": [2]},)])

    def test_they_are_caught_as_value_errors(self):
        with self.assertRaises(ValueError):
            raise errors.Nothing()

    def test_verdicts(self):
        for paper in (Alike, Unlike, Within, Beyond):
            self.assertTrue(issubclass(paper, Verdict))
            self.assertIsNot(paper, Verdict)
        self.assertEqual(Verdict.__module__, "stayopen.verdicts")


if __name__ == "__main__":
    unittest.main()
