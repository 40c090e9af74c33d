"""What any values are: integers, names, places."""

LETTERS = "abcdefghijklmnopqrstuvwxyz"
MOST_PLACE = 999999999


def is_integer(value):
    """Whether any value is an integer; True and False are none."""
    return isinstance(value, int) and not isinstance(value, bool)


def is_within(value, least, most):
    """Whether any value is an integer from least to most."""
    return is_integer(value) and least <= value <= most


def is_name(value):
    """Whether any value is a string of 1 to 8 letters from a to z."""
    if not isinstance(value, str) or not 1 <= len(value) <= 8:
        return False
    return all([letter in LETTERS for letter in value])


def is_place(value):
    """Whether any value is a place, or a key."""
    return is_within(value, 0, MOST_PLACE)
