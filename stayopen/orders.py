"""Whether the answers of the asks of one key fit an order, and what holds in each such order."""

from stayopen.checks import is_integer
from stayopen.copied import copied
from stayopen.errors import BadAsk, Clashing
from stayopen.histories import need_asks, parts_of, zones
from stayopen.verdicts import Verdict


class Order(Verdict):
    """An order of the asks that play a part."""

    def __init__(self, indexes):
        self.indexes = copied(indexes)

    def __bool__(self):
        return True

    def __eq__(self, other):
        return isinstance(other, Order) and self.indexes == other.indexes


class Quarrel(Verdict):
    """Two asks, or two lots, that fit no order."""

    def __init__(self, word, one, other):
        self.word = copied(word)
        self.one = copied(one)
        self.other = copied(other)

    def __bool__(self):
        return False

    def __eq__(self, other):
        if not isinstance(other, Quarrel):
            return False
        return self.word == other.word and self.one == other.one and self.other == other.other


def order_of(asks):
    """An Order of the asks that play a part, or a Quarrel if there is none."""
    need_asks(asks)
    early = gets_ahead_of_puts(asks)
    if len(early) > 0:
        return Quarrel("future", early[0], asks[early[0]].told)
    lots = lots_at_odds(zones(asks))
    if lots is not None:
        return Quarrel("lots", lots[0], lots[1])
    return Order(tuple(indexes_in_order(asks)))


def surely(asks, one, other):
    """Whether one ask stands ahead of another one in every order."""
    need_asks(asks)
    told = parts_of(asks)
    if not is_integer(one) or one not in told:
        raise BadAsk("one")
    if not is_integer(other) or other not in told:
        raise BadAsk("other")
    need_order(asks)
    if lot_of(asks, one) != lot_of(asks, other):
        return is_lot_ahead(zones(asks), lot_of(asks, one), lot_of(asks, other))
    if asks[one].word == "put":
        return one != other
    # No get of an order is ahead of its put.
    return asks[one].is_ahead(asks[other])


def tellable(asks):
    """The puts, or None, that a further get behind all asks can tell so that there is an order."""
    told = zones(asks)
    if len(gets_ahead_of_puts(asks)) > 0 or lots_at_odds(told) is not None:
        return ()
    there = {lot: True for lot, _, _ in told}
    free = [at for at in range(len(asks)) if asks[at].word == "put" and at not in there]
    last = [row[0] for row in told if row[0] is not None and can_be_last(told, row)]
    puts = sorted([*free, *last])
    if len([lot for lot in there if lot is not None]) > 0:
        return tuple(puts)
    return (None, *puts)


def lot_of(asks, at):
    """The lot of an ask that plays a part, told by its put or None."""
    return at if asks[at].word == "put" else asks[at].told


def gets_ahead_of_puts(asks):
    """The indexes of the gets that ended ahead of the begin of the put that they tell."""
    return [at for at in range(len(asks)) if asks[at].told is not None and asks[at].is_ahead(asks[asks[at].told])]


def lots_at_odds(told):
    """Two lots of some zones each of which should stand ahead of the other, None without such ones."""
    for at in range(len(told)):
        lot, least, greatest = told[at]
        odd = [other for other, end, begin in told[:at] if end < greatest and least < begin]
        if len(odd) > 0:
            return (odd[0], lot)
    return None


def need_order(asks):
    """Raises Clashing if there is no order."""
    if len(gets_ahead_of_puts(asks)) > 0 or lots_at_odds(zones(asks)) is not None:
        raise Clashing("order")


def indexes_in_order(asks):
    """The indexes of the asks that play a part in an order, of asks that have one."""
    # If one lot should stand ahead of another one, its least end and its greatest begin are not
    # above the greatest begin and the least end of the other, and one of them is below.
    sums = {lot: least + greatest for lot, least, greatest in zones(asks)}
    rows = []
    for at in parts_of(asks):
        lot = lot_of(asks, at)
        rows.append((sums[lot], -1 if lot is None else lot, 0 if at == lot else 1, asks[at].begun, at))
    return [row[-1] for row in sorted(rows)]


def is_lot_ahead(told, one, other):
    """Whether a row of lots leads from one lot to another one, each surely ahead of the next one."""
    begins = {lot: greatest for lot, _, greatest in told}
    ends = {lot: least for lot, least, _ in told}
    bound = ends[one]
    while True:
        # All lots with a begin above the bound are reached; one of them can have a lesser end.
        further = min([bound] + [least for _, least, greatest in told if greatest > bound])
        if further == bound:
            return begins[other] > bound
        bound = further


def can_be_last(told, row):
    """Whether a lot can stand behind all other lots that are there."""
    return all([row[1] >= greatest for lot, _, greatest in told if lot != row[0]])
