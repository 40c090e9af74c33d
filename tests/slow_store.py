"""A slow store, written anew by the points 5 to 9 of the document, and plays drawn by a seed.

Nothing here uses the plays of the package: what is noted, kept and sent is worked out from plain
lists, all of them gone through each time; a step is taken back by playing all others again.
"""

import random

from stayopen import errors
from stayopen.books import Book
from stayopen.lots import Lots
from stayopen.quotas import Quotas
from stayopen.rings import Ring
from stayopen.store import Store
from tests import models

NOTHING = ((0, ""), None, None)


class SlowStore:
    def __init__(self, store):
        self.store = store
        self.deeds = []
        self.rings = [dict(store.ring)]
        self.kept = {place: {} for place in self.rings[0]}
        self.closed = {place: -1 for place in self.rings[0]}
        self.fallen = []
        self.letters = []  # lists [is it on the way, sender, receiver, word, parts]
        self.asks = []
        self.known = {}
        self.last = {}
        # For each epoch above 0: the hosts that have told, in their order; what was chosen; who has answered.
        self.told = [None]
        self.chosen = [None]
        self.answered = [None]

    # What is so.

    def left_out(self, care):
        return care in self.store.cares

    def copies(self, key, epoch):
        ring = self.rings[epoch]
        walk = sorted(ring, key=lambda place: (place < key, place))
        book = self.store.book
        taken = models.takes(book.states, book.most, [ring[place] for place in walk])
        return [place for place, is_taken in zip(walk, taken) if is_taken]

    def running(self, client):
        """The ask of a client that has not ended and was not dropped, or None."""
        found = [ask for ask in self.asks if ask["client"] == client and ask["ended"] is None and not ask["dropped"]]
        return found[0] if found else None

    def is_greater(self, one, other):
        return one[0][0] > other[0][0] if self.left_out("names") else one[0] > other[0]

    def greatest(self, kepts):
        return next(kept for kept in kepts if not any(self.is_greater(other, kept) for other in kepts))

    def is_shut(self, epoch):
        """Whether all keys are shut in the epoch ahead of this one."""
        noted = [place for place, _ in self.told[epoch]]
        keys = [0, *self.rings[epoch - 1], *[place + 1 for place in self.rings[epoch - 1]]]
        return all(sum(place not in noted for place in self.copies(key, epoch - 1)) <= self.store.lots.spare
                   for key in keys)

    def is_settled(self, epoch):
        if epoch == 0:
            return True
        return self.chosen[epoch] is not None and all(
            len(self.answered[epoch][key]) >= self.store.lots.sweep for key in self.chosen[epoch])

    # Errors, in their order.

    def error_of(self, step):
        if len(self.deeds) >= 2000:
            return errors.TooMany("steps", 2000)
        word, *rest = step
        if word in ("put", "get"):
            return self.error_of_ask(*rest[:2])
        if word == "tell" and rest[0] not in self.known and len(self.known) == 20:
            return errors.TooMany("clients", 20)
        if word in ("again", "drop"):
            if rest[0] not in self.known:
                return errors.NoClient(rest[0])
            if self.running(rest[0]) is None:
                return errors.Clashing("idle")
        if word in ("pass", "twin", "lose"):
            if rest[0] >= len(self.letters) or not self.letters[rest[0]][0]:
                return errors.NoLetter(rest[0])
        if word == "fall":
            if rest[0] not in self.kept:
                return errors.NoHost(rest[0])
            if rest[0] in self.fallen:
                return errors.Clashing("fallen")
        return self.error_of_begin(rest) if word == "begin" else None

    def error_of_ask(self, client, key):
        keys = {ask["key"] for ask in self.asks}
        if self.running(client) is not None:
            return errors.Clashing("busy")
        if client not in self.known and len(self.known) == 20:
            return errors.TooMany("clients", 20)
        if key not in keys and len(keys) == 40:
            return errors.TooMany("keys", 40)
        return errors.TooMany("asks", 200) if len(self.asks) == 200 else None

    def error_of_begin(self, changes):
        if not self.left_out("early") and not self.is_settled(len(self.rings) - 1):
            return errors.Clashing("settling")
        if len(changes) > self.store.changes:
            return errors.Clashing("changes")
        if any(word == "come" and place in self.kept for word, place, *_ in changes):
            return errors.Clashing("place")
        ring, seen = self.rings[-1], []
        for word, place, *name in changes:
            fits = place in ring if word != "come" else place not in ring
            if not fits or place in seen or (word == "turn" and ring[place] == name[0]):
                return errors.BadChange((word, place, *name))
            seen.append(place)
        many = len(ring) + sum({"come": 1, "go": -1, "turn": 0}[word] for word, *_ in changes)
        if many > 100:
            return errors.TooMany("hosts", 100)
        return errors.TooMany("epochs", 60) if len(self.rings) == 60 else None

    # Steps.

    def do(self, step):
        word, *rest = step
        if word in ("put", "get"):
            self.known.setdefault(rest[0], 0)
            self.last.setdefault(rest[0], 0)
            ask = {"number": len(self.asks), "client": rest[0], "word": word, "key": rest[1], "value": (*rest, None)[2],
                   "begun": len(self.deeds), "ended": None, "dropped": False, "kept": None, "attempt": -1}
            self.asks.append(ask)
            self.round(ask, 1)
        elif word == "tell":
            self.last.setdefault(rest[0], 0)
            self.known[rest[0]] = len(self.rings) - 1
        elif word == "again":
            self.goes_on(self.running(rest[0]))
        elif word == "drop":
            self.running(rest[0])["dropped"] = True
        elif word in ("pass", "twin", "lose"):
            letter = self.letters[rest[0]]
            letter[0] = word == "twin"
            if word != "lose":
                self.comes(*letter[1:])
        elif word == "fall":
            self.fallen.append(rest[0])
        elif word == "begin":
            self.begins(rest)
        else:
            self.settles()
        self.deeds.append(step)

    def back(self):
        deeds = self.deeds[:-1]
        self.__init__(self.store)
        for step in deeds:
            self.do(step)

    def send(self, sender, receiver, word, *parts):
        self.letters.append([True, sender, receiver, word, parts])

    def comes(self, sender, receiver, word, parts):
        if receiver is None:
            self.comes_to_keeper(sender, word, parts)
        elif isinstance(receiver, int):
            if receiver not in self.fallen:
                self.comes_to_host(sender, receiver, word, parts)
        else:
            self.comes_to_client(sender, receiver, word, parts)

    # Clients.

    def round(self, ask, number):
        ask["epoch"] = self.known[ask["client"]] if ask["attempt"] == -1 else ask["epoch"]
        ask["stage"], ask["noted"] = number, []
        ask["attempt"] += 1
        for place in self.copies(ask["key"], ask["epoch"]):
            if number == 1:
                self.send(ask["client"], place, "hear", ask["number"], ask["attempt"], ask["epoch"], ask["key"])
            else:
                self.send(ask["client"], place, "keep", ask["number"], ask["attempt"], ask["epoch"], ask["key"],
                          ask["kept"])

    def goes_on(self, ask):
        ask["epoch"] = self.known[ask["client"]]
        if self.left_out("stamp"):
            ask["kept"] = None
        self.round(ask, 1 if ask["kept"] is None else 2)

    def comes_to_client(self, place, client, word, parts):
        ask = self.running(client)
        if ask is None or (ask["number"], ask["attempt"]) != parts[:2]:
            return
        if word == "refused":
            if parts[2] > ask["epoch"]:
                self.known[client] = max(self.known[client], parts[2])
                self.goes_on(ask)
            return
        if place in [noted for noted, _ in ask["noted"]]:
            return
        ask["noted"].append((place, parts[2] if word == "heard" else None))
        lots = self.store.lots
        if ask["stage"] == 2 and len(ask["noted"]) == lots.keep:
            ask["ended"] = len(self.deeds)
        elif ask["stage"] == 1 and len(ask["noted"]) == lots.read:
            heard = [kept for _, kept in ask["noted"]]
            if ask["word"] == "put":
                last = 0 if self.left_out("number") else self.last[client]
                self.last[client] = 1 + max(last, *[kept[0][0] for kept in heard])
                ask["kept"] = ((self.last[client], client), ask["number"], ask["value"])
            else:
                ask["kept"] = self.greatest(heard)
            if ask["word"] == "get" and self.left_out("back"):
                ask["ended"] = len(self.deeds)
            else:
                self.round(ask, 2)

    # Hosts.

    def comes_to_host(self, sender, place, word, parts):
        if word == "fence":
            self.closed[place] = max(self.closed[place], parts[0])
            told = tuple((key, self.kept[place][key]) for key in sorted(self.kept[place]))
            self.send(place, sender, "fenced", parts[0], told)
        elif word == "sweep":
            self.keeps(place, *parts[1:])
            self.send(place, sender, "swept", *parts[:2])
        elif self.closed[place] >= parts[2]:
            self.send(place, sender, "refused", *parts[:2], self.closed[place] + 1)
        elif word == "hear":
            self.send(place, sender, "heard", *parts[:2], self.kept[place].get(parts[3], NOTHING))
        else:
            self.keeps(place, *parts[3:])
            self.send(place, sender, "kept", *parts[:2])

    def keeps(self, place, key, kept):
        if self.left_out("older") or self.is_greater(kept, self.kept[place].get(key, NOTHING)):
            self.kept[place][key] = kept
            if kept == NOTHING:
                del self.kept[place][key]

    # The keeper.

    def begins(self, changes):
        ring = dict(self.rings[-1])
        for word, place, *name in changes:
            if word == "go":
                del ring[place]
            else:
                ring[place] = name[0]
        for place in ring:
            self.kept.setdefault(place, {})
            self.closed.setdefault(place, -1)
        self.rings.append(ring)
        self.told.append([])
        self.chosen.append(None)
        self.answered.append({})
        for place in sorted(self.rings[-2]):
            self.send(None, place, "fence", len(self.rings) - 2)
        self.chooses(len(self.rings) - 1)

    def chooses(self, epoch):
        if self.chosen[epoch] is not None or not self.is_shut(epoch):
            return
        self.chosen[epoch] = {}
        for key in sorted({key for _, told in self.told[epoch] for key, _ in told}):
            elder, newer = self.copies(key, epoch - 1), self.copies(key, epoch)
            kepts = [dict(told)[key] for place, told in self.told[epoch] if place in elder and key in dict(told)]
            if kepts and set(elder) != set(newer):
                self.chosen[epoch][key] = self.greatest(kepts)
                self.answered[epoch][key] = []
        self.sweeps(epoch)

    def sweeps(self, epoch):
        for key in sorted(self.chosen[epoch]):
            for place in self.copies(key, epoch):
                if place not in self.answered[epoch][key]:
                    self.send(None, place, "sweep", epoch, key, self.chosen[epoch][key])

    def comes_to_keeper(self, place, word, parts):
        if word == "swept":
            epoch, key = parts
            if place not in self.answered[epoch][key]:
                self.answered[epoch][key].append(place)
            return
        epoch = parts[0] + 1
        if place not in [noted for noted, _ in self.told[epoch]]:
            self.told[epoch].append((place, parts[1]))
            self.chooses(epoch)

    def settles(self):
        for epoch in range(1, len(self.rings)):
            if not self.is_settled(epoch):
                noted = [place for place, _ in self.told[epoch]]
                for place in sorted(self.rings[epoch - 1]):
                    if place not in noted:
                        self.send(None, place, "fence", epoch - 1)
                if self.chosen[epoch] is not None:
                    self.sweeps(epoch)


def replayed(player):
    """A slow store behind the same steps."""
    slow = SlowStore(player.store)
    for step in player.deeds:
        slow.do(step)
    return slow


def plain(value):
    """A value with each Kept in it as a triple."""
    if isinstance(value, tuple):
        return tuple(plain(part) for part in value)
    return (value.stamp, value.put, value.value) if type(value).__name__ == "Kept" else value


def seen_of_player(player):
    """All that a player tells, as plain values."""
    told = {"deeds": player.deeds, "clock": player.clock, "epoch": player.epoch, "settled": player.is_settled,
            "fallen": player.fallen}
    told["letters"] = [(letter.number, letter.sender, letter.receiver, letter.word, plain(letter.parts))
                       for letter in player.letters()]
    places = sorted({place for epoch in range(player.epoch + 1) for place, _ in player.ring_of(epoch)})
    told["hosts"] = {place: (player.host(place).closed, {key: plain(player.host(place).kept(key))
                                                         for key in player.host(place)}) for place in places}
    told["rings"] = [dict(player.ring_of(epoch)) for epoch in range(player.epoch + 1)]
    told["swept"] = [player.swept(epoch) and {key: (plain(kept), places) for key, (kept, places)
                                              in player.swept(epoch).items()} for epoch in range(player.epoch + 1)]
    told["fenced"] = [player.fenced(epoch) for epoch in range(player.epoch + 1)]
    told["clients"] = {}
    for client in player.clients:
        ask = player.asking(client)
        told["clients"][client] = (player.known(client), ask and {name: plain(value) for name, value in vars(ask).items()})
    return told


def seen_of_slow(slow):
    """The same of a slow store."""
    told = {"deeds": tuple(slow.deeds), "clock": len(slow.deeds), "epoch": len(slow.rings) - 1,
            "settled": slow.is_settled(len(slow.rings) - 1), "fallen": tuple(sorted(slow.fallen))}
    told["letters"] = [(number, *letter[1:]) for number, letter in enumerate(slow.letters) if letter[0]]
    told["hosts"] = {place: (slow.closed[place], {key: slow.kept[place][key] for key in sorted(slow.kept[place])})
                     for place in sorted(slow.kept)}
    told["rings"] = [{place: ring[place] for place in sorted(ring)} for ring in slow.rings]
    told["swept"] = [chosen and {key: (chosen[key], tuple(sorted(answered[key]))) for key in chosen}
                     for chosen, answered in zip(slow.chosen, slow.answered)]
    told["fenced"] = [tuple(sorted(place for place, _ in told)) if told else () for told in slow.told]
    told["clients"] = {}
    for client in sorted(slow.known):
        ask = slow.running(client)
        told["clients"][client] = (slow.known[client], ask and {
            "ask": ask["number"], "word": ask["word"], "key": ask["key"], "epoch": ask["epoch"], "stage": ask["stage"],
            "attempt": ask["attempt"], "kept": ask["kept"], "noted": tuple(sorted(place for place, _ in ask["noted"]))})
    return told


def history_of_slow(slow, key):
    """The history of a key as tuples (client, word, begun, ended, told)."""
    asks = [ask for ask in slow.asks if ask["key"] == key]
    numbers = [ask["number"] for ask in asks]
    told = []
    for ask in asks:
        put = ask["kept"][1] if ask["word"] == "get" and ask["ended"] is not None else None
        told.append((ask["client"], ask["word"], ask["begun"], ask["ended"], None if put is None else numbers.index(put)))
    return told


# Drawn stores and steps.

LAST = 999999999
CLIENTS = ("p", "q", "zoe")
KEYS = (0, 25, LAST)


def drawn_store(made, lots=None, cares=None):
    """A store of a small ring; lots mostly such that asks can end."""
    ring = Ring(*[(place, made.choice("abc")) for place in made.sample((0, 10, 20, 30, 40, 50, LAST), made.choice((0, 2, 3, 4, 4, 5, 6)))])
    book = made.choice((Book({"": 0}, most=2), Book({"": 0}, most=3), Quotas((1, ("a",)), (2, ("a", "b")), most=3).as_book(),
                        Book({"a": 1, "b": 2}, {"b": 3}, {"a": 3}, {}, most=2), Book({"": 0}, most=4), Book({"": 0}, most=1)))
    if lots is None:
        lots = Lots(*[made.choice((1, 2, 2, 3)) for _ in range(3)], made.choice((None, None, 0, 1, 2)))
    if cares is None:
        cares = made.sample(Store.CARES, made.choice((0, 0, 1, 1, 2, 6)))
    return Store(ring, book, lots, cares, made.randint(1, 3))


def drawn_change(made, slow):
    ring = slow.rings[-1]
    word = made.choice(("come", "go", "turn"))
    place = made.choice(sorted(ring)) if ring and made.random() < 0.9 and word != "come" else made.choice((5, 15, 25, 35, 45, 10))
    return (word, place) if word == "go" else (word, place, made.choice("abc"))


def drawn_step(made, slow):
    """A step, mostly one that can be done."""
    on_way = [number for number, letter in enumerate(slow.letters) if letter[0]]
    draw = made.random()
    client = made.choice(CLIENTS)
    if draw < 0.08:
        key = made.choice(KEYS)
        return made.choice((("put", client, key, made.choice((0, -7, 10 ** 40 - 1))), ("get", client, key)))
    if draw < 0.105:
        return (made.choice(("tell", "again", "again", "drop")), client)
    if draw < 0.115:
        return ("fall", made.choice((0, 10, 20, 77)))
    if draw < 0.14:
        return ("begin", *[drawn_change(made, slow) for _ in range(made.choice((1, 1, 1, 2, 3)))])
    if draw < 0.16 or not on_way:
        return made.choice((("settle",), ("pass", 10 ** 6)))
    number = made.choice(on_way[-8:]) if made.random() < 0.8 else made.choice(on_way)
    return (made.choice(("pass",) * 18 + ("twin", "lose")), number)
