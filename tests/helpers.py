"""What the tests share."""

import unittest


def same(one, other):
    """Whether two values are equal, their kinds and the order of their keys included."""
    if type(one) is not type(other):
        return False
    if isinstance(one, (list, tuple)):
        return len(one) == len(other) and all(same(a, b) for a, b in zip(one, other))
    if isinstance(one, dict):
        return same(list(one.items()), list(other.items()))
    return one == other


class Case(unittest.TestCase):
    """A test case that counts kinds, and that tells errors by their attributes."""

    def assertSame(self, told, wanted):
        self.assertTrue(same(told, wanted), f"{told!r} is not {wanted!r}")

    def assertRaisesJust(self, wanted, work, *rest, **more):
        """Calls work, which is to raise an error of the class and the attributes of wanted."""
        try:
            told = work(*rest, **more)
        except ValueError as error:
            self.assertIs(type(error), type(wanted), f"{error!r} is not {wanted!r}")
            self.assertSame(vars(error), vars(wanted))
            return
        self.fail(f"{wanted!r} was not raised; returned was {told!r}")


# Any values, of every kind, that are hardly ever what a function needs.
STRANGE = (None, True, False, -1, 10 ** 40, "", "A", "a b", "nine" * 3, (), (1,), [], [1], {}, {"a": 1}, ((),), "a\nb")
