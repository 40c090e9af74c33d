"""What a desk answers: of its book, ring and lots, and of a play."""

from stayopen.bears import is_breaking
from stayopen.calm import calm
from stayopen.ends import ends
from stayopen.falls import bears_falls, stopped
from stayopen.guards import guard
from stayopen.leaps import leap_of
from stayopen.orders import order_of
from stayopen.pairs import rows_of
from stayopen.stamps import nothing
from stayopen.steps import STEPS
from stayopen.texts import ask_line, number_or_dash, play_page, step_line
from stayopen.walks import copies


def joined_text(texts, between):
    """Some texts with a text between them, a dash if there are none."""
    return "-" if len(texts) == 0 else between.join(texts)


def numbers_text(numbers):
    """Some numbers with blanks between them."""
    return joined_text([str(number) for number in numbers], " ")


def rows_text(rows):
    """Some tuples of numbers."""
    return joined_text([numbers_text(row) for row in rows], " ; ")


def yes_or_no(told):
    """The word of a truth."""
    return "yes" if told else "no"


def triples_of(book, changes):
    """All leaps of a book, ascending."""
    return sorted({leap_of(row) for row in rows_of(book, changes)})


def say_copies(desk, key):
    """The copies of a key on the desk's ring."""
    return numbers_text(copies(desk.book, desk.ring, key))


def say_leaps(desk, changes):
    """All leaps of the desk's book."""
    return rows_text(triples_of(desk.book, changes))


def say_bears(desk, changes):
    """Whether the desk's book bears its lots, and the least leap that forbids it."""
    # The put is ahead of the changes here.
    bad = [triple for triple in triples_of(desk.book, changes) if is_breaking(triple, desk.lots.keep, desk.lots.read)]
    return "yes" if len(bad) == 0 else f"no {numbers_text(bad[0])}"


def say_stopped(desk, places):
    """The keys that fallen hosts stop."""
    return rows_text(stopped(desk.book, desk.ring, desk.lots, *places))


def say_falls(desk, _):
    """How many falls the desk's ring bears."""
    return str(bears_falls(desk.book, desk.ring, desk.lots).many)


def say_step(player, step):
    """A step is done: how many letters it sent."""
    ahead = player._play.tables["many"]["sent"]
    player.step(step)
    return str(player._play.tables["many"]["sent"] - ahead)


def say_undo(player, _):
    """The last step is taken back."""
    return step_line(player.undo())


def say_clock(player, _):
    """How many steps are done."""
    return str(player.clock)


def say_epoch(player, _):
    """The newest epoch."""
    return str(player.epoch)


def say_settled(player, _):
    """Whether the newest epoch is settled."""
    return yes_or_no(player.is_settled)


def say_kept(player, told):
    """What a host keeps for a key."""
    place, key = told
    kept = player.host(place).kept(key)
    if kept == nothing():
        return "-"
    return f"{kept.stamp[0]} {kept.stamp[1]} {kept.put} {kept.value}"


def say_letters(player, _):
    """The letters on the way."""
    return numbers_text([letter.number for letter in player.letters()])


def say_history(player, key):
    """The asks of a key."""
    return joined_text([ask_line(ask) for ask in player.history(key)], " ; ")


def say_order(player, key):
    """An order of the asks of a key, or a quarrel."""
    told = order_of(player.history(key))
    if told:
        return numbers_text(told.indexes)
    return f"quarrel {told.word} {number_or_dash(told.one)} {number_or_dash(told.other)}"


def say_guard(player, _):
    """Whether both guards hold."""
    return yes_or_no(guard(player))


def say_ends(player, client):
    """Whether the ask of a client can end."""
    return yes_or_no(ends(player, client))


def say_calm(player, _):
    """All letters come: how many rounds."""
    told = calm(player)
    player.run(*told.steps)
    return str(len(told.rounds))


def say_page(player, _):
    """The page of the play."""
    return " / ".join(play_page(player).split("\n"))


OF_THE_DESK = {"copies": say_copies, "leaps": say_leaps, "bears": say_bears, "stopped": say_stopped, "falls": say_falls}
OF_A_PLAY = {"undo": say_undo, "clock": say_clock, "epoch": say_epoch, "settled": say_settled, "kept": say_kept,
             "letters": say_letters, "history": say_history, "order": say_order, "guard": say_guard, "ends": say_ends,
             "calm": say_calm, "page": say_page}


def is_of_desk(word):
    """Whether a line with this first word asks for something of the desk's book, ring and lots."""
    return word in OF_THE_DESK


def answer_of_desk(desk, word, told):
    """The answer to a line that asks for something of the desk's book, ring and lots."""
    action = OF_THE_DESK[word]
    return action(desk, told)


def is_of_play(word):
    """Whether a line with this first word wants a play."""
    return word in OF_A_PLAY or word in STEPS


def answer_of_play(player, word, told):
    """The answer to a line that wants a play."""
    if word in STEPS:
        return say_step(player, told)
    action = OF_A_PLAY[word]
    return action(player, told)
