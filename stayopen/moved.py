"""How a further host, or a turned one, changes the copies, over all orders of the hosts.

Ways are a dict from triples (left, told, is_met) to the number of the orders that lead there:
how many hosts of each class are still to come, what both walks have met (two_walks.py), and
whether the one host that changes was met.
"""

from math import factorial

from stayopen.chances import check_classes, check_many, lowest
from stayopen.tables import behind_in, table_of
from stayopen.two_walks import BEGINNING, behind_host, first_behinds, second_behinds


def moved_chances(book, name, *names):
    """With a further host at any place: a dict from pairs (x, y) to their chances."""
    check_classes(book, [name, *names])
    check_many(1 + len(names))
    return pair_chances(book, None, name, names)


def turned_chances(book, one, other, *names):
    """With a host that has the class one ahead and other behind: a dict from pairs (x, y)."""
    check_classes(book, [one, other, *names])
    check_many(1 + len(names))
    return pair_chances(book, one, other, names)


def pair_chances(book, one, other, names):
    """The chances of the pairs (x, y), with a host of these classes, None where it is not there."""
    told = sorted(set(names))
    states = book.states
    table = table_of(states, told)
    # What the changing host does in each state, in the first walk and in the second one.
    odd = ([[None if one is None else behind_in(state, one)] for state in states],
           [[behind_in(state, other)] for state in states])
    ways = {(tuple([names.count(name) for name in told]), BEGINNING, False): 1}
    for _ in range(len(names) + 1):
        ways = ways_on(table, odd, book.most, ways)
    found = {}
    for (_, row, _), many in ways.items():
        add_ways(found, row[2:4], many)
    orders = factorial(len(names) + 1)
    return {pair: lowest(found[pair], orders) for pair in sorted(list(found))}


def ways_on(table, odd, most, ways):
    """The ways behind one host more, a common one or the one that changes."""
    found = {}
    for (left, row, is_met), many in ways.items():
        if not is_met:
            behind = behind_host(row, first_behinds(odd[0], most, row)[0], second_behinds(odd[1], most, row)[0])
            add_ways(found, (left, behind, True), many)
        firsts = first_behinds(table, most, row)
        seconds = second_behinds(table, most, row)
        for at in range(len(left)):
            if left[at] > 0:
                fewer = tuple([left[k] - 1 if k == at else left[k] for k in range(len(left))])
                behind = behind_host(row, firsts[at], seconds[at])
                add_ways(found, (fewer, behind, is_met), many * left[at])
    return found


def add_ways(found, place, many):
    """Adds so many orders to those that lead to a place."""
    found[place] = found.get(place, 0) + many
