"""Which asks fallen hosts stop, and how many falls a ring bears."""

from math import comb

from stayopen.arcs import arcs, arcs_of
from stayopen.chances import lowest
from stayopen.checks import is_integer, is_place, is_within
from stayopen.copied import copied
from stayopen.errors import BadNumber, NoHost, TooMany
from stayopen.lots import need_lots
from stayopen.needs import need_book, need_key, need_ring
from stayopen.stretches import joined
from stayopen.walks import copies

MOST_LOTS_OF_HOSTS = 5000


class Falls:
    """How many falls stop no key, and a key with the copies whose fall stops it."""

    def __init__(self, many, places, key):
        self.many = copied(many)
        self.places = copied(places)
        self.key = copied(key)

    def __eq__(self, other):
        if not isinstance(other, Falls):
            return False
        return self.many == other.many and self.places == other.places and self.key == other.key


def stopped(book, ring, lots, *fallen):
    """The stretches of the keys of which fewer copies than are needed stand."""
    need_told(book, ring, lots)
    for place in fallen:
        if place not in ring:
            raise NoHost(place)
    rows = []
    for first, last, places in arcs_of(book, ring, [place for place, _ in ring]):
        standing = [place for place in places if place not in fallen]
        rows.append((first, last, len(standing) < needed(lots)))
    return tuple([(first, last) for first, last, is_stopped in joined(rows) if is_stopped])


def bears_falls(book, ring, lots):
    """The Falls of a ring: how many hosts may fall, whichever they are."""
    need_told(book, ring, lots)
    rows = arcs(book, ring)
    fewest = min([len(places) for _, _, places in rows])
    key, _, places = [row for row in rows if len(row[2]) == fewest][0]
    many = max(fewest - needed(lots), -1)
    return Falls(many, places[:many + 1], key)


def shows_falls(book, ring, lots, value):
    """Whether any value is a Falls of just as many, with any key and any copies whose fall stops it."""
    told = bears_falls(book, ring, lots)
    if not isinstance(value, Falls) or not is_place(value.key):
        return False
    if not is_integer(value.many) or value.many != told.many:
        return False
    places = value.places
    if not isinstance(places, tuple) or len(places) != told.many + 1:
        return False
    taken = copies(book, ring, value.key)
    if not all([is_integer(place) and place in taken for place in places]) or len(set(places)) < len(places):
        return False
    return len(taken) - len(places) < needed(lots)


def chance(book, ring, lots, key, many):
    """The share of the lots of so many hosts whose fall stops a key, a pair in lowest terms."""
    need_told(book, ring, lots)
    need_key(key)
    need_many(ring, many)
    ours = len(copies(book, ring, key))
    found = 0
    for gone in range(min(ours, many) + 1):
        if ours - gone < needed(lots):
            found += comb(ours, gone) * comb(len(ring) - ours, many - gone)
    return lowest(found, comb(len(ring), many))


def all_go(book, ring, lots, many):
    """The share of the lots of so many hosts whose fall stops no key at all."""
    need_told(book, ring, lots)
    need_many(ring, many)
    bottom = comb(len(ring), many)
    if bottom > MOST_LOTS_OF_HOSTS:
        raise TooMany("lots", MOST_LOTS_OF_HOSTS)
    walks = sorted({places for _, _, places in arcs(book, ring)})
    spared = [(places, len(places) - needed(lots)) for places in walks]
    if any([spare < 0 for _, spare in spared]):
        return (0, 1)
    return lowest(lots_that_go([place for place, _ in ring], spared, many), bottom)


def lots_that_go(hosts, spared, many):
    """How many lots of so many of the hosts take at most as many of some places as can be spared of them."""
    if many == 0:
        return 1
    if many > len(hosts):
        return 0
    # Without the first host, and with it.
    found = lots_that_go(hosts[1:], spared, many)
    less = [(places, spare - 1 if hosts[0] in places else spare) for places, spare in spared]
    if all([spare >= 0 for _, spare in less]):
        found = found + lots_that_go(hosts[1:], less, many - 1)
    return found


def need_told(book, ring, lots):
    """Raises the error of the first of a book, a ring and lots that is none."""
    need_book(book, "book")
    need_ring(ring, "ring")
    need_lots(lots)


def need_many(ring, many):
    """Raises BadNumber for any value that is no number of hosts of a ring."""
    if not is_within(many, 0, len(ring)):
        raise BadNumber(many)


def needed(lots):
    """How many copies an ask needs for both of its rounds."""
    return max(lots.read, lots.keep)
