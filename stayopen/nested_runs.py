"""Runs of nested quotas in which the copies that keep a value, or that are open, go one by one.

Where a copy goes, another host takes its place; no other copy changes.
"""

from stayopen.leading import answer, end_ask, go_on_newest
from stayopen.nested import classes_of_most
from stayopen.player import Player
from stayopen.rings import Ring
from stayopen.store import Store


def full_player(quotas, book, lots, many, cares=()):
    """A player of the book of some quotas, with as many copies of the key 0 as can be.

    For each of the first so many copies there is a further host that can take its place.
    """
    classes = classes_of_most(quotas)
    classes = [*classes, *classes[:many]]
    hosts = [(at, classes[at]) for at in range(len(classes))]
    return Player(Store(Ring(*hosts), book, lots, cares))


def let_go(player, places, many):
    """Hosts at some places go, one by each begin, until so many copies of the key 0 are at others.

    Each begin settles ahead of the next one, and no further copy comes to know what these hosts keep.
    """
    copies = player.copies_of(0, 0)
    while len([place for place in copies if place not in places]) < many:
        if not player.is_settled and "early" not in player.store.cares:
            settle_apart(player, places)
        gone = [place for place in copies if place in places][0]
        player.step(("begin", ("go", gone)))
        copies = player.copies_of(0, player.epoch)


def settle_apart(player, places):
    """The newest epoch settles, and only copies at some places, which know it, answer a sweep."""
    elder = player.epoch - 1
    lots = player.store.lots
    hosts = [place for place, _ in player.ring_of(elder)]
    others = [place for place in hosts if place not in places]
    if len(hosts) - len(others) <= lots.spare:
        # All these hosts can be spared, so the keeper is told of nothing.
        answer(player, None, "fence", others)
        return
    answer(player, None, "fence", hosts)
    keepers = [place for place in player.copies_of(0, elder + 1) if place in places]
    answer(player, None, "sweep", keepers[:lots.sweep])


def run_forgotten(player, places):
    """What breaks a play in which the hosts at some places keep a put that has ended, and then go."""
    lots = player.store.lots
    end_ask(player, ("put", "p", 0, 1), player.copies_of(0, 0)[:lots.read], places)
    let_go(player, places, lots.read)
    copies = player.copies_of(0, player.epoch)
    others = [place for place in copies if place not in places]
    player.step(("tell", "q"))
    end_ask(player, ("get", "q", 0), others[:lots.read], copies[:lots.keep])


def run_left_open(player, places):
    """What breaks a play in which the hosts at some places are never shut, and a get hears them at last."""
    lots = player.store.lots
    let_go(player, places, lots.keep)
    copies = player.copies_of(0, player.epoch)
    others = [place for place in copies if place not in places]
    player.step(("tell", "p"))
    end_ask(player, ("put", "p", 0, 1), copies[:lots.read], others[:lots.keep])
    end_ask(player, ("get", "q", 0), places, ())
    go_on_newest(player, "q")
    answer(player, "q", "keep", copies[:lots.keep])
