"""Players: plays of a store, step by step."""

from stayopen.asking import client_of, present_ask
from stayopen.checks import is_integer, is_name, is_place, is_within
from stayopen.copied import copied
from stayopen.doing import do_step
from stayopen.errors import BadNumber, BadPlayer, BadStep, NoClient, NoHost, NoLetter, Nothing, OpenError, TooMany
from stayopen.histories import Ask
from stayopen.keeper import is_epoch_settled
from stayopen.needs import need_key
from stayopen.plays import Play
from stayopen.step_checks import check_step
from stayopen.steps import is_step
from stayopen.store import Store
from stayopen.trials import Trial

MOST_STEPS = 2000


class Asking:
    """The ask that a client has: its round, its try, and the hosts that it has noted."""

    def __init__(self, ask, word, key, epoch, stage, attempt, kept, noted):
        self.ask = copied(ask)
        self.word = copied(word)
        self.key = copied(key)
        self.epoch = copied(epoch)
        self.stage = copied(stage)
        self.attempt = copied(attempt)
        self.kept = copied(kept)
        self.noted = copied(noted)

    def __eq__(self, other):
        if not isinstance(other, Asking):
            return False
        if self.ask != other.ask or self.word != other.word or self.key != other.key:
            return False
        if self.epoch != other.epoch or self.stage != other.stage or self.attempt != other.attempt:
            return False
        return self.kept == other.kept and self.noted == other.noted


class Player:
    """A play of a store."""

    def __init__(self, store):
        if not isinstance(store, Store):
            raise BadPlayer("store")
        # Papers store a store and an epoch, too, so here they are no properties.
        self.store = store
        self.epoch = 0
        self._play = Play(store)

    @property
    def deeds(self):
        """The tuple of the steps done."""
        return tuple([step for step, _ in self._play.past])

    @property
    def clock(self):
        """How many steps are done."""
        return len(self._play.past)

    @property
    def is_settled(self):
        """Whether the newest epoch is the epoch 0, or settled."""
        return is_epoch_settled(self._play, self.epoch)

    @property
    def clients(self):
        """The ascending tuple of the clients that the play knows."""
        return tuple(sorted(list(self._play.tables["client"])))

    @property
    def fallen(self):
        """The ascending tuple of the places of the hosts that have fallen."""
        return tuple(sorted(list(self._play.tables["fallen"])))

    def __eq__(self, other):
        if not isinstance(other, Player):
            return False
        return self.store == other.store and self.deeds == other.deeds

    def step(self, step):
        """Carries out a step."""
        if not is_step(step):
            raise BadStep(step)
        if len(self._play.past) >= MOST_STEPS:
            raise TooMany("steps", MOST_STEPS)
        check_step(self._play, step)
        do_step(self._play, step)
        self.epoch = self._play.newest()

    def run(self, *steps):
        """Carries out some steps in order, or none of them if one cannot be done."""
        many = len(self._play.past)
        try:
            for step in steps:
                self.step(step)
        except OpenError:
            while len(self._play.past) > many:
                self.undo()
            raise

    def undo(self):
        """Takes back the last of the deeds, and returns it."""
        if len(self._play.past) == 0:
            raise Nothing()
        step = self._play.take_back()
        self.epoch = self._play.newest()
        return step

    def attempt(self, step):
        """Whether a step can be done; if so it is done."""
        try:
            self.step(step)
        except OpenError:
            return False
        return True

    def trial(self):
        """For one block: `with player.trial() as same:`; behind it the player is as it was."""
        return Trial(self)

    def tried(self, work):
        """What work returns of the player, which is as it was behind it."""
        with self.trial() as same:
            return work(same)

    def twin(self):
        """Another player in the same state."""
        other = Player(self.store)
        other._play = self._play.twin()
        other.epoch = self.epoch
        return other

    def ring_of(self, epoch):
        """The ring of an epoch."""
        need_epoch(self, epoch)
        return self._play.tables["ring"][epoch]

    def copies_of(self, key, epoch):
        """The places of the copies of a key in an epoch, in the order of the walk."""
        need_key(key)
        need_epoch(self, epoch)
        return self._play.copies_at(key, epoch)

    def host(self, place):
        """The Host at a place, also one that has gone or fallen."""
        hosts = self._play.tables["host"]
        if not is_place(place) or place not in hosts:
            raise NoHost(place)
        return hosts[place]

    def known(self, client):
        """The epoch that a client knows."""
        need_client(self, client)
        return client_of(self._play, client)["known"]

    def asking(self, client):
        """The Asking of the ask that a client has, None if it has none."""
        need_client(self, client)
        ask = present_ask(self._play, client)
        if ask is None:
            return None
        noted = tuple(sorted([place for place, _ in ask["noted"]]))
        return Asking(ask["number"], ask["word"], ask["key"], ask["epoch"], ask["stage"], ask["attempt"],
                      ask["kept"], noted)

    def letters(self):
        """Generates the letters that are on the way when the first one is requested."""
        told = self._play.tables["letter"]
        for letter in [told[number] for number in sorted(list(told))]:
            yield letter

    def letter(self, number):
        """The letter with this number, which is on the way."""
        told = self._play.tables["letter"]
        if not is_integer(number) or number not in told:
            raise NoLetter(number)
        return told[number]

    def history(self, key):
        """The tuple of the Asks of a key."""
        need_key(key)
        asks = self._play.tables["ask"]
        told = [asks[number] for number in range(len(asks)) if asks[number]["key"] == key]
        places = {told[at]["number"]: at for at in range(len(told))}
        return tuple([ask_told(ask, places) for ask in told])

    def answer(self, ask):
        """The Kept with which an ask has ended, None if it has not."""
        asks = self._play.tables["ask"]
        if not is_within(ask, 0, len(asks) - 1):
            raise BadNumber(ask)
        return None if asks[ask]["ended"] is None else asks[ask]["kept"]

    def swept(self, epoch):
        """A dict from the swept keys to what is swept and the copies that have answered."""
        need_epoch(self, epoch)
        rows = None if epoch == 0 else self._play.tables["begin"][epoch]["swept"]
        if rows is None:
            return None
        return {key: (rows[key][0], tuple(sorted(rows[key][2]))) for key in rows}

    def fenced(self, epoch):
        """The ascending tuple of the hosts that the keeper has noted for the begin of an epoch."""
        need_epoch(self, epoch)
        if epoch == 0:
            return ()
        return tuple(sorted([place for place, _ in self._play.tables["begin"][epoch]["noted"]]))


def need_player(value):
    """Raises BadPlayer for any value that is no Player."""
    if not isinstance(value, Player):
        raise BadPlayer("player")


def need_epoch(player, epoch):
    """Raises BadNumber for any value that is no number of an epoch that has begun."""
    if not is_within(epoch, 0, player.epoch):
        raise BadNumber(epoch)


def need_client(player, client):
    """Raises NoClient for any value that is no client of the play."""
    if not is_name(client) or client not in player._play.tables["client"]:
        raise NoClient(client)


def ask_told(ask, places):
    """The Ask of a history; places are those of the asks in it, by their numbers."""
    put = ask["kept"].put if ask["word"] == "get" and ask["ended"] is not None else None
    return Ask(ask["client"], ask["word"], ask["begun"], ask["ended"], None if put is None else places[put])
