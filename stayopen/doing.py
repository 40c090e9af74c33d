"""What each step does to a play."""

from stayopen.asking import begin_ask, come_to_client, drop_ask, go_on, know, present_ask
from stayopen.keeper import begin_epoch, come_to_keeper, settle


def do_step(play, step):
    """Carries out a step that can be done."""
    word = step[0]
    if word in ("put", "get"):
        begin_ask(play, step)
    elif word == "tell":
        know(play, step[1], play.newest())
    elif word == "again":
        go_on(play, present_ask(play, step[1]))
    elif word == "drop":
        drop_ask(play, step[1])
    elif word in ("pass", "twin", "lose"):
        do_letter(play, word, step[1])
    elif word == "fall":
        play.write("fallen", step[1], True)
    elif word == "begin":
        begin_epoch(play, step)
    else:
        settle(play)
    play.end_step(step)


def do_letter(play, word, number):
    """A letter comes, or is lost; only a twin leaves it on the way."""
    letter = play.tables["letter"][number]
    if word != "twin":
        play.erase("letter", number)
    if word == "lose":
        return
    if letter.receiver is None:
        come_to_keeper(play, letter)
    elif isinstance(letter.receiver, str):
        come_to_client(play, letter)
    else:
        come_to_host(play, letter)


def come_to_host(play, letter):
    """A letter comes to a host, which answers it unless it has fallen."""
    place = letter.receiver
    if place in play.tables["fallen"]:
        return
    host, answer = play.tables["host"][place].answered(letter.word, letter.parts, play.store.cares)
    word, parts = answer
    play.write("host", place, host)
    play.send(place, letter.sender, word, parts)
