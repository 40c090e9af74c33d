"""The words of steps, and of changes of the ring."""

from stayopen.errors import BadText
from stayopen.line_words import name_at, need_end, place_at, value_at, whole_at
from stayopen.needs import MOST_CHANGES
from stayopen.steps import STEPS
from stayopen.words import word_at


def step_in(words):
    """The step that some words tell."""
    word = words[0]
    if word not in STEPS:
        raise BadText(0, 0)
    if word == "begin":
        return ("begin", *changes_in(words))
    if word == "put":
        told = (name_at(words, 1), place_at(words, 2), value_at(words, 3))
    elif word == "get":
        told = (name_at(words, 1), place_at(words, 2))
    elif word in ("tell", "again", "drop"):
        told = (name_at(words, 1),)
    elif word in ("pass", "twin", "lose"):
        told = (whole_at(words, 1),)
    elif word == "fall":
        told = (place_at(words, 1),)
    else:
        told = ()
    need_end(words, 1 + len(told))
    return (word, *told)


def changes_in(words):
    """The changes that the words behind the first one tell, one to three."""
    changes = []
    at = 1
    while len(changes) == 0 or at < len(words):
        if len(changes) == MOST_CHANGES:
            raise BadText(0, at)
        change = change_at(words, at)
        changes.append(change)
        at += len(change)
    return changes


def change_at(words, at):
    """The change of a ring that begins at a word."""
    word = word_at(words, at)
    if word == "go":
        return ("go", place_at(words, at + 1))
    if word in ("come", "turn"):
        return (word, place_at(words, at + 1), name_at(words, at + 2))
    raise BadText(0, at)
