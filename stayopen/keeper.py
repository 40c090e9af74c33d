"""What the keeper of the store does: it begins epochs, shuts keys in the elder ones, and sweeps.

A begin is a dict of walks (the unlike copies that keys have in the epoch ahead of it), noted (a
tuple of pairs of a place and what its host told, in the order of the notes), and swept: None until
the keeper has chosen, then a dict from the swept keys, ascending, to triples of what is swept, the
copies in the epoch of the begin, and a tuple of those that have answered.
"""

from stayopen.arcs import arcs
from stayopen.hosts import Host
from stayopen.stamps import greatest


def is_epoch_settled(play, epoch):
    """Whether an epoch is the epoch 0, or settled."""
    if epoch == 0:
        return True
    swept = play.tables["begin"][epoch]["swept"]
    if swept is None:
        return False
    return all([len(answered) >= play.store.lots.sweep for _, _, answered in swept.values()])


def begin_epoch(play, step):
    """The ring of the next epoch is made; the fences are sent."""
    elder = play.newest()
    ring = play.tables["ring"][elder]
    changed = ring.changed_by(step[1:])
    play.write("ring", elder + 1, changed)
    for place, _ in changed:
        if place not in play.tables["host"]:
            play.write("host", place, Host(place))
    walks = sorted({copies for _, _, copies in arcs(play.store.book, ring)})
    play.write("begin", elder + 1, {"walks": walks, "noted": (), "swept": None})
    for place, _ in ring:
        play.send(None, place, "fence", (elder,))
    choose_if_shut(play, elder + 1)


def come_to_keeper(play, letter):
    """A letter comes to the keeper."""
    if letter.word == "fenced":
        elder, told = letter.parts
        note_fenced(play, elder + 1, letter.sender, told)
    else:
        epoch, key = letter.parts
        note_swept(play, epoch, key, letter.sender)


def note_fenced(play, epoch, place, told):
    """The keeper notes a host for the begin of an epoch, and what it told, once."""
    begin = play.tables["begin"][epoch]
    if place in [noted for noted, _ in begin["noted"]]:
        return
    play.write("begin", epoch, {**begin, "noted": (*begin["noted"], (place, told))})
    if begin["swept"] is None:
        choose_if_shut(play, epoch)


def note_swept(play, epoch, key, place):
    """The keeper notes that a copy has answered the sweep of a key."""
    begin = play.tables["begin"][epoch]
    kept, places, answered = begin["swept"][key]
    if place not in answered:
        row = (kept, places, (*answered, place))
        swept = {other: row if other == key else begin["swept"][other] for other in begin["swept"]}
        play.write("begin", epoch, {**begin, "swept": swept})


def choose_if_shut(play, epoch):
    """If all keys are shut in the epoch ahead of this one, the keeper chooses and sends the sweeps."""
    begin = play.tables["begin"][epoch]
    if not are_shut(begin, play.store.lots.spare):
        return
    swept = {}
    for key in sorted({other for _, told in begin["noted"] for other, _ in told}):
        ahead = play.copies_at(key, epoch - 1)
        behind = play.copies_at(key, epoch)
        kepts = kepts_told(begin, ahead, key)
        if len(kepts) > 0 and sorted(ahead) != sorted(behind):
            swept[key] = (greatest(kepts, "names" not in play.store.cares), behind, ())
    play.write("begin", epoch, {**begin, "swept": swept})
    send_sweeps(play, epoch)


def are_shut(begin, spare):
    """Whether of the copies of each key at most spare are not noted."""
    noted = {place: True for place, _ in begin["noted"]}
    return all([len([place for place in copies if place not in noted]) <= spare for copies in begin["walks"]])


def kepts_told(begin, copies, key):
    """What the noted ones of some copies told that they keep for a key, in the order of the notes."""
    return [kept for place, told in begin["noted"] if place in copies for other, kept in told if other == key]


def send_sweeps(play, epoch):
    """Sends the sweeps to all copies that have not answered."""
    swept = play.tables["begin"][epoch]["swept"]
    for key in swept:
        kept, places, answered = swept[key]
        for place in places:
            if place not in answered:
                play.send(None, place, "sweep", (epoch, key, kept))


def settle(play):
    """For each begin that has not settled the keeper sends anew what is not answered."""
    for epoch in sorted(list(play.tables["begin"])):
        if not is_epoch_settled(play, epoch):
            send_anew(play, epoch)


def send_anew(play, epoch):
    """Sends the fences of a begin to the hosts that are not noted, and its sweeps."""
    begin = play.tables["begin"][epoch]
    noted = {place: True for place, _ in begin["noted"]}
    for place, _ in play.tables["ring"][epoch - 1]:
        if place not in noted:
            play.send(None, place, "fence", (epoch - 1,))
    if begin["swept"] is not None:
        send_sweeps(play, epoch)
