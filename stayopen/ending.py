"""Steps that end an ask, along the nodes that it goes through (going_on.py)."""

from stayopen.asking import client_of, present_ask
from stayopen.doing import do_step
from stayopen.going_on import hosts_of, letters_of_try, stands


def steps_along(play, client, path):
    """The tuple of the steps that lead an ask along a path of nodes and end it; the play stays as it is."""
    many = len(play.past)
    twin = play.twin()
    for at in range(1, len(path)):
        lead_on(twin, client, path[at - 1], path[at])
    hear_enough(twin, client, path[-1])
    return tuple([step for step, _ in twin.past[many:]])


def lead_on(play, client, node, other):
    """Leads the ask of a client from a node to a next one."""
    # Only answers lead from the round 1 to the round 2.
    if other[2] > node[2]:
        hear_enough(play, client, node)
    elif other[1] == client_of(play, client)["known"]:
        do_step(play, ("again", client))
    elif other[1] == play.newest():
        do_step(play, ("tell", client))
        do_step(play, ("again", client))
    else:
        be_refused(play, present_ask(play, client), other[1])


def hear_enough(play, client, node):
    """The hosts of a node answer, until the round has ended."""
    ask = present_ask(play, client)
    for place in hosts_of(play, ask, node):
        present = present_ask(play, client)
        if present is None or present["attempt"] != ask["attempt"]:
            return
        if place not in [noted for noted, _ in present["noted"]]:
            hear_host(play, present, place)


def hear_host(play, ask, place):
    """The answer of a host comes to an ask, behind the letter to the host where it is not on the way yet."""
    if len(answers_from(play, ask, place)) == 0:
        come_to(play, ask, place)
    do_step(play, ("pass", answers_from(play, ask, place)[0]))


def answers_from(play, ask, place):
    """The numbers of the answers of a host to the present try that are on the way."""
    return [letter.number for letter in letters_of_try(play, ask) if letter.sender == place]


def come_to(play, ask, place):
    """The letter of the present try comes to a host."""
    numbers = [letter.number for letter in letters_of_try(play, ask) if letter.receiver == place]
    do_step(play, ("pass", numbers[0]))


def be_refused(play, ask, epoch):
    """A host refuses the present try, and tells just this epoch."""
    for letter in letters_of_try(play, ask):
        if letter.word == "refused" and letter.parts[2] == epoch:
            do_step(play, ("pass", letter.number))
            return
    for letter in letters_of_try(play, ask):
        if letter.word in ("hear", "keep") and close_for(play, letter.receiver, epoch):
            do_step(play, ("pass", letter.number))
            refused = answers_from(play, ask, letter.receiver)
            do_step(play, ("pass", refused[-1]))
            return


def close_for(play, place, epoch):
    """Whether a host tells just this epoch if it refuses; a fence to it comes if that makes it so."""
    if not stands(play, place):
        return False
    closed = play.tables["host"][place].closed
    if closed + 1 == epoch:
        return True
    fences = [letter.number for letter in play.tables["letter"].values()
              if letter.word == "fence" and letter.receiver == place and letter.parts[0] + 1 == epoch]
    if closed >= epoch or len(fences) == 0:
        return False
    do_step(play, ("pass", fences[0]))
    return True
