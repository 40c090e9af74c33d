"""What clients do: they ask, and go on with what hosts answer.

An ask is a dict of its number, client, word, key, value (None of a get), begun, ended (or None),
epoch, stage (the round), attempt (the number of the try), kept (a Kept, or None ahead of the
stamp) and noted, a tuple of pairs of a place and what was heard there (None in the round 2).
"""

from stayopen.stamps import Kept, greatest

CLIENT = {"known": 0, "last": 0, "ask": None}


def client_of(play, name):
    """What a play knows of a client, as of a new one where it knows nothing."""
    return play.tables["client"].get(name, dict(CLIENT))


def present_ask(play, name):
    """The ask that a client has, None if it has none."""
    number = client_of(play, name)["ask"]
    return None if number is None else play.tables["ask"][number]


def begin_ask(play, step):
    """A client begins an ask, in the epoch that it knows."""
    name = step[1]
    client = client_of(play, name)
    number = len(play.tables["ask"])
    ask = {"number": number, "client": name, "word": step[0], "key": step[2],
           "value": step[3] if step[0] == "put" else None, "begun": len(play.past), "ended": None, "attempt": -1}
    play.write("client", name, {**client, "ask": number})
    begin_round(play, ask, client["known"], 1, None)


def begin_round(play, ask, epoch, stage, kept):
    """An ask begins a round in an epoch, with this Kept or with none yet: a new try."""
    begun = {**ask, "epoch": epoch, "stage": stage, "attempt": ask["attempt"] + 1, "kept": kept, "noted": ()}
    play.write("ask", ask["number"], begun)
    parts = (begun["number"], begun["attempt"], epoch, begun["key"])
    for place in play.copies_at(begun["key"], epoch):
        if stage == 1:
            play.send(begun["client"], place, "hear", parts)
        else:
            play.send(begun["client"], place, "keep", (*parts, kept))


def go_on(play, ask):
    """An ask goes on in the epoch that its client knows."""
    epoch = client_of(play, ask["client"])["known"]
    if ask["kept"] is None or "stamp" in play.store.cares:
        begin_round(play, ask, epoch, 1, None)
    else:
        begin_round(play, ask, epoch, 2, ask["kept"])


def know(play, name, epoch):
    """A client knows at least this epoch."""
    client = client_of(play, name)
    play.write("client", name, {**client, "known": max(client["known"], epoch)})


def drop_ask(play, name):
    """A client has no ask any more."""
    client = client_of(play, name)
    play.write("client", name, {**client, "ask": None})


def come_to_client(play, letter):
    """A letter comes to a client."""
    ask = present_ask(play, letter.receiver)
    if ask is None or ask["number"] != letter.parts[0] or ask["attempt"] != letter.parts[1]:
        return
    if letter.word == "refused":
        # What a host tells that refuses is above the epoch of the try, always.
        know(play, letter.receiver, letter.parts[2])
        go_on(play, ask)
    elif letter.sender not in [place for place, _ in ask["noted"]]:
        note(play, ask, letter.sender, letter.parts[2] if letter.word == "heard" else None)


def note(play, ask, place, heard):
    """An ask notes the answer of a host, and ends its round if these are enough."""
    noted = {**ask, "noted": (*ask["noted"], (place, heard))}
    many = len(noted["noted"])
    play.write("ask", ask["number"], noted)
    if ask["stage"] == 2:
        if many == play.store.lots.keep:
            end_ask(play, noted)
    elif many == play.store.lots.read:
        end_first_round(play, noted)


def end_first_round(play, ask):
    """An ask has its stamp: the round 2 begins, but for a get with the care back left out."""
    if ask["word"] == "put":
        kept = stamp_put(play, ask)
    else:
        kept = greatest([heard for _, heard in ask["noted"]], "names" not in play.store.cares)
    if ask["word"] == "get" and "back" in play.store.cares:
        end_ask(play, {**ask, "kept": kept})
    else:
        begin_round(play, ask, ask["epoch"], 2, kept)


def stamp_put(play, ask):
    """What a put lets hosts keep: its number is the last one of its client now."""
    client = client_of(play, ask["client"])
    numbers = [heard.stamp[0] for _, heard in ask["noted"]]
    if "number" not in play.store.cares:
        numbers.append(client["last"])
    number = max(numbers) + 1
    play.write("client", ask["client"], {**client, "last": number})
    return Kept((number, ask["client"]), ask["number"], ask["value"])


def end_ask(play, ask):
    """An ask has ended, with the Kept that it has."""
    play.write("ask", ask["number"], {**ask, "ended": len(play.past)})
    drop_ask(play, ask["client"])
