"""The errors of the package. Their arguments are kept as copies, in attributes of their names."""

from stayopen.copied import copied


class OpenError(ValueError):
    """The base of all errors of the package."""


class BadName(OpenError):
    """A value that is no name."""

    def __init__(self, value):
        self.value = copied(value)


class BadNumber(OpenError):
    """A value that is no integer within its bounds."""

    def __init__(self, value):
        self.value = copied(value)


class BadBook(OpenError):
    """A part of a book that is wrong, or an argument that is no book."""

    def __init__(self, part):
        self.part = copied(part)


class BadQuota(OpenError):
    """A part of quotas that is wrong, or an argument that is no Quotas."""

    def __init__(self, part):
        self.part = copied(part)


class BadRing(OpenError):
    """A part of a ring that is wrong, or an argument that is no ring."""

    def __init__(self, part):
        self.part = copied(part)


class BadChange(OpenError):
    """A value that is no change of the ring."""

    def __init__(self, value):
        self.value = copied(value)


class BadLots(OpenError):
    """A part of lots that is wrong, or an argument that is no Lots."""

    def __init__(self, part):
        self.part = copied(part)


class BadCare(OpenError):
    """A value that is no care that can be left out."""

    def __init__(self, value):
        self.value = copied(value)


class BadStep(OpenError):
    """A value that is no step of a play."""

    def __init__(self, value):
        self.value = copied(value)


class BadAsk(OpenError):
    """A part of an ask that is wrong, or an argument that is none."""

    def __init__(self, part):
        self.part = copied(part)


class BadPlayer(OpenError):
    """An argument that is no player, or none for a player."""

    def __init__(self, part):
        self.part = copied(part)


class BadText(OpenError):
    """A word of a text that cannot stand."""

    def __init__(self, line, word):
        self.line = copied(line)
        self.word = copied(word)


class BadCommand(OpenError):
    """A word of a line of the desk that cannot stand."""

    def __init__(self, word):
        self.word = copied(word)


class NoHost(OpenError):
    """A place that has no host."""

    def __init__(self, place):
        self.place = copied(place)


class NoLetter(OpenError):
    """A letter that is not on the way."""

    def __init__(self, number):
        self.number = copied(number)


class NoClient(OpenError):
    """A client that is not known."""

    def __init__(self, name):
        self.name = copied(name)


class NoEpoch(OpenError):
    """An epoch that has not begun."""

    def __init__(self, number):
        self.number = copied(number)


class Clashing(OpenError):
    """Something that cannot be beside what is there."""

    def __init__(self, part):
        self.part = copied(part)


class Nothing(OpenError):
    """What was asked for is not there."""


class TooMany(OpenError):
    """More of something than the most that can be."""

    def __init__(self, what, most):
        self.what = copied(what)
        self.most = copied(most)
