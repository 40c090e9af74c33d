"""Copies of what callers hand in."""


def copied(value):
    """The value with its lists and dicts made anew, all the way in.

    Objects of the package never change, so they are kept as they are.
    """
    if isinstance(value, list):
        return [copied(part) for part in value]
    if isinstance(value, tuple):
        return tuple([copied(part) for part in value])
    if isinstance(value, dict):
        return {key: copied(value[key]) for key in value}
    return value
