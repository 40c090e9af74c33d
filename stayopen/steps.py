"""Steps of a play."""

from stayopen.checks import is_integer, is_name, is_place
from stayopen.needs import MOST_CHANGES
from stayopen.ring_changes import is_change

STEPS = ("put", "get", "tell", "again", "drop", "pass", "twin", "lose", "fall", "begin", "settle")


def is_step(value):
    """Whether any value is a step."""
    if not isinstance(value, tuple) or len(value) == 0:
        return False
    word = value[0]
    told = value[1:]
    if word in ("put", "get"):
        return is_asking(word, told)
    if word in ("tell", "again", "drop"):
        return len(told) == 1 and is_name(told[0])
    if word in ("pass", "twin", "lose"):
        return len(told) == 1 and is_integer(told[0]) and told[0] >= 0
    if word == "fall":
        return len(told) == 1 and is_place(told[0])
    if word == "begin":
        return 1 <= len(told) <= MOST_CHANGES and all([is_change(change) for change in told])
    return word == "settle" and len(told) == 0


def is_asking(word, told):
    """Whether what stands behind put or get is a client, a key and, of a put, a value."""
    if len(told) != (3 if word == "put" else 2):
        return False
    if not is_name(told[0]) or not is_place(told[1]):
        return False
    return word == "get" or (is_integer(told[2]) and abs(told[2]) < 10 ** 40)
