"""What chance hosts have to be copies, over all orders of the hosts in a walk."""

from math import factorial

from stayopen.chances import check_ordered, hosts_next, lowest, ways_behind
from stayopen.tables import table_of


def shares(book, *names):
    """For hosts of these classes a dict from each class to the chance that one host is taken."""
    check_ordered(book, names)
    told = sorted(set(names))
    taken = [0 for _ in told]
    for many, hosts in enumerate(hosts_by_turn(book, names)):
        orders = factorial(len(names) - 1 - many)
        for at, ways, _, _, behind in hosts:
            if behind is not None:
                taken[at] = taken[at] + ways * orders
    bottom = factorial(len(names))
    return {told[at]: lowest(taken[at], names.count(told[at]) * bottom) for at in range(len(told))}


def counts(book, *names):
    """A dict from the numbers of copies to the chance that a walk has so many."""
    check_ordered(book, names)
    if len(names) == 0:
        return {0: (1, 1)}
    ways = ways_behind(hosts_by_turn(book, names)[-1])
    found = {}
    for place in ways:
        copies = place[1][1]
        found[copies] = found.get(copies, 0) + ways[place]
    return {copies: lowest(found[copies], factorial(len(names))) for copies in sorted(list(found))}


def hosts_by_turn(book, names):
    """For each turn of a walk through hosts of these classes all that can come then."""
    told = sorted(set(names))
    table = table_of(book.states, told)
    ways = {(tuple([names.count(name) for name in told]), (0, 0)): 1}
    turns = []
    for _ in names:
        hosts = hosts_next(table, book.most, ways)
        ways = ways_behind(hosts)
        turns.append(hosts)
    return turns
