"""Errors of steps that cannot be done in a play as it is."""

from stayopen.asking import client_of, present_ask
from stayopen.errors import Clashing, NoClient, NoHost, NoLetter, TooMany
from stayopen.keeper import is_epoch_settled

MOST_CLIENTS = 20
MOST_KEYS = 40
MOST_ASKS = 200
MOST_EPOCHS = 60


def check_step(play, step):
    """Raises the first error of a step that cannot be done; nothing changes."""
    word = step[0]
    if word in ("put", "get"):
        check_ask(play, step[1], step[2])
    elif word == "tell":
        check_new_client(play, step[1])
    elif word in ("again", "drop"):
        check_asking(play, step[1])
    elif word in ("pass", "twin", "lose"):
        check_letter(play, step[1])
    elif word == "fall":
        check_fall(play, step[1])
    elif word == "begin":
        check_begin(play, step[1:])


def check_ask(play, name, key):
    """Raises the error of a client that cannot ask for a key."""
    if client_of(play, name)["ask"] is not None:
        raise Clashing("busy")
    check_new_client(play, name)
    asks = play.tables["ask"]
    keys = {ask["key"]: True for ask in asks.values()}
    if key not in keys and len(keys) >= MOST_KEYS:
        raise TooMany("keys", MOST_KEYS)
    if len(asks) >= MOST_ASKS:
        raise TooMany("asks", MOST_ASKS)


def check_new_client(play, name):
    """Raises TooMany if a client would be one too many."""
    clients = play.tables["client"]
    if name not in clients and len(clients) >= MOST_CLIENTS:
        raise TooMany("clients", MOST_CLIENTS)


def check_asking(play, name):
    """Raises the error of a client that has no ask."""
    if name not in play.tables["client"]:
        raise NoClient(name)
    if present_ask(play, name) is None:
        raise Clashing("idle")


def check_letter(play, number):
    """Raises NoLetter if a letter is not on the way."""
    if number not in play.tables["letter"]:
        raise NoLetter(number)


def check_fall(play, place):
    """Raises the error of a host that cannot fall."""
    if place not in play.tables["host"]:
        raise NoHost(place)
    if place in play.tables["fallen"]:
        raise Clashing("fallen")


def check_begin(play, changes):
    """Raises the error of a begin that cannot be."""
    newest = play.newest()
    if "early" not in play.store.cares and not is_epoch_settled(play, newest):
        raise Clashing("settling")
    if len(changes) > play.store.changes:
        raise Clashing("changes")
    if any([change[0] == "come" and change[1] in play.tables["host"] for change in changes]):
        raise Clashing("place")
    # Made here only for the errors that it raises.
    play.tables["ring"][newest].changed_by(changes)
    if newest + 1 >= MOST_EPOCHS:
        raise TooMany("epochs", MOST_EPOCHS)
