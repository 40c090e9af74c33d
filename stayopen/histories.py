"""Histories: the asks of one key, their lots and the zones of these."""

from stayopen.checks import is_integer, is_name
from stayopen.errors import BadAsk, TooMany

MOST_ASKS = 1000


class Ask:
    """An ask of a history; it never changes."""

    def __init__(self, client, word, begun, ended=None, told=None):
        check_ask(client, word, begun, ended, told)
        self.client = client
        self.word = word
        self.begun = begun
        self.ended = ended
        self.told = told

    def is_ahead(self, other):
        """Whether it ended ahead of the begin of another ask."""
        if not isinstance(other, Ask):
            raise BadAsk("other")
        return self.ended is not None and self.ended < other.begun

    def __eq__(self, other):
        if not isinstance(other, Ask):
            return False
        if self.client != other.client or self.word != other.word or self.told != other.told:
            return False
        return self.begun == other.begun and self.ended == other.ended


def parts(asks):
    """The ascending tuple of the indexes of the asks that play a part."""
    need_asks(asks)
    return tuple(parts_of(asks))


def zones(asks):
    """For each lot that is there its put or None, its least end and its greatest begin."""
    need_asks(asks)
    ends = {}
    begins = {}
    if None in told_lots(asks):
        # Nothing itself ended ahead of all.
        ends[None] = -1
        begins[None] = -1
    for at in parts_of(asks):
        ask = asks[at]
        lot = at if ask.word == "put" else ask.told
        begins[lot] = max(begins.get(lot, ask.begun), ask.begun)
        if ask.ended is not None:
            ends[lot] = min(ends.get(lot, ask.ended), ask.ended)
    puts = sorted([lot for lot in begins if lot is not None])
    lots = [None, *puts] if None in begins else puts
    return tuple([(lot, ends[lot], begins[lot]) for lot in lots])


def check_ask(client, word, begun, ended, told):
    """Raises BadAsk with the first part of an ask that is wrong."""
    if not is_name(client):
        raise BadAsk("client")
    if word not in ("put", "get"):
        raise BadAsk("word")
    if not is_count(begun):
        raise BadAsk("begun")
    if ended is not None and not (is_integer(ended) and ended > begun):
        raise BadAsk("ended")
    if told is not None and (word == "put" or ended is None or not is_count(told)):
        raise BadAsk("told")


def is_count(value):
    """Whether any value is an integer from 0 on."""
    return is_integer(value) and value >= 0


def need_asks(asks):
    """Raises the error of the first thing that is wrong of any value that is to be a history."""
    if not isinstance(asks, (list, tuple)) or not all([isinstance(ask, Ask) for ask in asks]):
        raise BadAsk("asks")
    if len(asks) > MOST_ASKS:
        raise TooMany("asks", MOST_ASKS)
    for at in range(len(asks)):
        told = asks[at].told
        if told is not None and (told >= len(asks) or asks[told].word != "put"):
            raise BadAsk(at)


def told_lots(asks):
    """The lots that gets that have ended tell, by their puts or None: a dict of True."""
    return {ask.told: True for ask in asks if ask.word == "get" and ask.ended is not None}


def parts_of(asks):
    """The indexes of the asks that play a part, ascending."""
    told = told_lots(asks)
    return [at for at in range(len(asks))
            if asks[at].ended is not None or (asks[at].word == "put" and at in told)]
