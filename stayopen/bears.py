"""What a book bears: whether a read lot and a keep lot meet, whatever changes come between."""

from stayopen.checks import is_within
from stayopen.copied import copied
from stayopen.errors import BadNumber
from stayopen.leaps import leap_of
from stayopen.lots import need_read_and_keep
from stayopen.needs import need_book, need_changes
from stayopen.pair_rings import shown_by
from stayopen.pairs import rows_of, ways_to_rows
from stayopen.verdicts import Verdict
from stayopen.walks import copies

MOST_FALLS = 100


class Bears(Verdict):
    """The closed table of a book that bears a read lot and a keep lot."""

    def __init__(self, table):
        self.table = copied(table)

    def __bool__(self):
        return True

    def __eq__(self, other):
        return isinstance(other, Bears) and self.table == other.table


class Breaks(Verdict):
    """A ring, changes of it, and a keep lot behind them apart from a read lot ahead of them."""

    def __init__(self, ring, changes, kept, heard):
        self.ring = copied(ring)
        self.changes = copied(changes)
        self.kept = copied(kept)
        self.heard = copied(heard)

    def __bool__(self):
        return False

    def __eq__(self, other):
        if not isinstance(other, Breaks):
            return False
        if self.ring != other.ring or self.changes != other.changes:
            return False
        return self.kept == other.kept and self.heard == other.heard


def bears(book, read, keep, changes=1):
    """Whether a book bears a read lot and a keep lot: a Bears or a Breaks."""
    need_book(book, "book")
    need_read_and_keep(read, keep)
    ways = ways_to_rows(book, changes)
    for row in ways:
        if is_breaking(leap_of(row), read, keep):
            return break_at(book, read, keep, ways, row)
    return Bears(tuple(sorted(list(ways))))


def greatest_sum(book, read, keep, changes=1):
    """The greatest x + y + z of the leaps that leave room for both lots, None if there is none."""
    need_book(book, "book")
    need_read_and_keep(read, keep)
    return sum_among([leap_of(row) for row in rows_of(book, changes)], read, keep)


def frontier(book, changes=1):
    """The ascending tuple of the least pairs (read, keep), up to the room, that a book bears."""
    triples = sorted({leap_of(row) for row in rows_of(book, changes)})
    numbers = range(1, book.room + 1)
    borne = [(read, keep) for read in numbers for keep in numbers if is_borne(triples, read, keep)]
    return tuple([(read, keep) for read, keep in borne
                  if (read - 1, keep) not in borne and (read, keep - 1) not in borne])


def stopping(book):
    """The least pairs (read, keep), up to the room, for a store that stops for each change."""
    need_book(book, "book")
    most = book.room
    return tuple([(read, most + 1 - read) for read in range(1, most + 1)])


def price(book, changes=1):
    """How many copies more never stopping wants than stopping, None if no lots bear it."""
    told = frontier(book, changes)
    if len(told) == 0:
        return None
    return min([read + keep for read, keep in told]) - (book.room + 1)


def fewest(falls, changes=1):
    """The least number of copies that bears so many changes at once and goes on with these falls."""
    if not is_within(falls, 0, MOST_FALLS):
        raise BadNumber(falls)
    need_changes(changes)
    # r copies of which c can be replaced at once want read + keep above r + c, at most 2 (r - falls).
    return 2 * falls + changes + 1


def is_breaking(triple, read, keep):
    """Whether a keep lot behind a leap can be apart from a read lot ahead of it."""
    x, y, z = triple
    return x + z >= read and y + z >= keep and x + y + z >= read + keep


def sum_among(triples, read, keep):
    """The greatest x + y + z of the triples that leave room for both lots, None without one."""
    # With (x, y, z) there is (y, x, z), so it means nothing which lot is ahead.
    sums = [x + y + z for x, y, z in triples if x + z >= keep and y + z >= read]
    return max(sums) if len(sums) > 0 else None


def is_borne(triples, read, keep):
    """Whether no leap among all of a book breaks a read lot and a keep lot."""
    return not any([is_breaking(triple, read, keep) for triple in triples])


def break_at(book, read, keep, ways, row):
    """The Breaks of a row that breaks a read lot and a keep lot."""
    ring, changes = shown_by(ways, row)
    ahead = copies(book, ring, 0)
    behind = copies(book, ring.changed_by(changes), 0)
    gone = [place for place in ahead if place not in behind]
    both = [place for place in ahead if place in behind]
    # Copies that are both are heard or kept only where the others are too few.
    heard = [*gone, *both][:read]
    free = [place for place in behind if place not in ahead] + [place for place in both if place not in heard]
    kept = free[:keep]
    return Breaks(ring, changes, tuple([place for place in behind if place in kept]),
                  tuple([place for place in ahead if place in heard]))
