"""Changes of a ring, told of a dict from the places of its hosts to their classes."""

from stayopen.checks import is_name, is_place
from stayopen.errors import BadChange


def is_host(value):
    """Whether any value is a pair of a place and a class."""
    return isinstance(value, tuple) and len(value) == 2 and is_place(value[0]) and is_name(value[1])


def is_change(value):
    """Whether any value is a change by its form alone."""
    if not isinstance(value, tuple) or not 2 <= len(value) <= 3 or not is_place(value[1]):
        return False
    if len(value) == 2:
        return value[0] == "go"
    return value[0] in ("come", "turn") and is_name(value[2])


def is_change_of(classes, change):
    """Whether a change can be told of the ring with these classes."""
    word, place = change[:2]
    if word == "come":
        return place not in classes
    if word == "go":
        return place in classes
    return place in classes and classes[place] != change[2]


def classes_behind(classes, changes):
    """The classes behind changes that are all told of one ring; raises BadChange."""
    behind = {place: classes[place] for place in classes}
    changed = {}
    for change in changes:
        if not is_change(change) or not is_change_of(classes, change) or change[1] in changed:
            raise BadChange(change)
        changed[change[1]] = True
        if change[0] == "go":
            del behind[change[1]]
        else:
            behind[change[1]] = change[2]
    return behind


def changes_between(classes, others):
    """The fewest changes that lead from classes to others, by ascending places."""
    changes = []
    for place in sorted(set([*classes, *others])):
        if place not in classes:
            changes.append(("come", place, others[place]))
        elif place not in others:
            changes.append(("go", place))
        elif classes[place] != others[place]:
            changes.append(("turn", place, others[place]))
    return tuple(changes)
