"""Whether asks can still end: stayopen/ends.py, held against a search and rows written anew."""

import random
import unittest

from stayopen.books import Book
from stayopen.ends import Ends, Stuck, ends, shows_ends
from stayopen.errors import BadPlayer, Clashing, NoClient
from stayopen.lots import Lots
from stayopen.player import Player
from stayopen.rings import Ring
from stayopen.store import Store
from tests.helpers import STRANGE, Case
from tests.scenes import ask, give, on_way, plain_player, settle
from tests.slow_store import CLIENTS, SlowStore, drawn_step, drawn_store, replayed

MOST_STATES = 30000


def letters_of_try(slow, ask):
    return [letter for letter in slow.letters if letter[0] and letter[3] in ("hear", "heard", "keep", "kept", "refused")
            and letter[4][:2] == (ask["number"], ask["attempt"])]


def fences(slow, place):
    return [letter[4][0] for letter in slow.letters if letter[0] and letter[3] == "fence" and letter[2] == place]


def rows_model(slow, client):
    """The rows of an ask, row by row from the document: {(who, epoch, round): hosts}, the first one of all alone."""
    ask, known, newest = slow.running(client), slow.known[client], len(slow.rings) - 1
    here = ask["epoch"]
    letters = letters_of_try(slow, ask)
    asked = [letter[2] for letter in letters if letter[3] in ("hear", "keep")]

    def stands(place):
        return place not in slow.fallen

    def tells(epoch, places):
        found = []
        for place in places:
            if stands(place):
                if slow.closed[place] >= epoch:
                    found.append(slow.closed[place] + 1)
                found += [late + 1 for late in fences(slow, place) if late >= epoch and late > slow.closed[place]]
        return found

    def open_hosts(epoch):
        return tuple(sorted(place for place in slow.copies(ask["key"], epoch)
                            if stands(place) and slow.closed[place] < epoch))

    present = {place for place, _ in ask["noted"]} | {letter[1] for letter in letters if letter[3] in ("heard", "kept")}
    present |= {place for place in asked if stands(place) and slow.closed[place] < here}
    rows = {("first", here, ask["stage"]): tuple(sorted(present))}
    todo = [("first", here, ask["stage"])]
    while todo:
        who, epoch, stage = todo.pop()
        if who == "first":
            told = [letter[4][2] for letter in letters if letter[3] == "refused"] + tells(here, asked)
        else:
            told = tells(epoch, slow.copies(ask["key"], epoch))
        if who == "new":
            further = {epoch, newest, *told}
        else:
            further = {known, newest, *[max(known, number) for number in told]}
        again = 2 if stage == 2 and not slow.left_out("stamp") else 1
        found = [("new", other, again) for other in further]
        if stage == 1 and len(rows[(who, epoch, stage)]) >= slow.store.lots.read:
            found.append(("own" if who == "first" else "new", epoch, 2))
        for row in found:
            if row not in rows:
                rows[row] = open_hosts(row[1])
                todo.append(row)
    return rows


def told_rows(rows):
    told = [(epoch, stage, hosts) for (who, epoch, stage), hosts in rows.items()]
    return (told[0], *sorted(set(told[1:])))


def is_enough(slow, client, rows):
    ask, lots = slow.running(client), slow.store.lots
    for (_, _, stage), hosts in rows.items():
        if stage == 2 and len(hosts) >= lots.keep:
            return True
        if stage == 1 and slow.left_out("back") and ask["word"] == "get" and len(hosts) >= lots.read:
            return True
    return False


def can_end(slow, client):
    """Whether some steps pass, tell and again end the ask, by a search over all of them; None if there are too many.

    A state tells what the client knows, the ask's epoch, its round, who is noted, to whom letters and from whom
    answers of the present try are on the way, the closed numbers, and the fences that are on the way.
    """
    ask, newest, lots = slow.running(client), len(slow.rings) - 1, slow.store.lots
    places = sorted({place for epoch in range(newest + 1) for place in slow.copies(ask["key"], epoch)})
    at = {place: number for number, place in enumerate(places)}
    letters = letters_of_try(slow, ask)
    noted = frozenset(place for place, _ in ask["noted"])
    asked = frozenset(letter[2] for letter in letters if letter[3] in ("hear", "keep"))
    answers = frozenset((letter[1], letter[4][2] if letter[3] == "refused" else "yes")
                        for letter in letters if letter[3] in ("heard", "kept", "refused"))
    late = frozenset((place, epoch) for place in places for epoch in fences(slow, place))
    first = (slow.known[client], ask["epoch"], ask["stage"], noted, asked, answers,
             tuple(slow.closed[place] for place in places), late)
    seen, todo = {first}, [first]

    def begun(known, epoch, stage, closed, late):
        return (known, epoch, stage, frozenset(), frozenset(slow.copies(ask["key"], epoch)), frozenset(), closed, late)

    def goes_on(known, stage, closed, late):
        return begun(known, known, 2 if stage == 2 and not slow.left_out("stamp") else 1, closed, late)

    def next_states(state):
        known, epoch, stage, noted, asked, answers, closed, late = state
        yield goes_on(known, stage, closed, late)
        yield (newest, *state[1:])
        for place, number in late:
            now = closed
            if place not in slow.fallen:
                now = tuple(max(old, number) if k == at[place] else old for k, old in enumerate(closed))
            yield (known, epoch, stage, noted, asked, answers, now, late - {(place, number)})
        for place in asked:
            told = answers
            if place not in slow.fallen:
                told = answers | {(place, closed[at[place]] + 1 if closed[at[place]] >= epoch else "yes")}
            yield (known, epoch, stage, noted, asked - {place}, told, closed, late)
        for place, told in answers:
            if told != "yes":
                yield goes_on(max(known, told), stage, closed, late)
                continue
            now = noted | {place}
            if stage == 2 and len(now) >= lots.keep:
                yield None
            elif stage == 1 and len(now) >= lots.read:
                if slow.left_out("back") and ask["word"] == "get":
                    yield None
                yield begun(known, epoch, 2, closed, late)
            else:
                yield (known, epoch, stage, now, asked, answers - {(place, told)}, closed, late)

    while todo:
        for state in next_states(todo.pop()):
            if state is None:
                return True
            if state not in seen:
                seen.add(state)
                todo.append(state)
        if len(seen) > MOST_STATES:
            return None
    return False


def drawn_play(seed, steps, **more):
    """A play of drawn steps with many falls and lost letters at its end."""
    made = random.Random(seed)
    store = drawn_store(made, **more)
    player, slow = Player(store), SlowStore(store)

    def attempt(step):
        if slow.error_of(step) is None:
            player.step(step)
            slow.do(step)

    for _ in range(steps):
        attempt(drawn_step(made, slow))
    for _ in range(made.randint(0, 12)):
        on_way = [number for number, letter in enumerate(slow.letters) if letter[0]]
        attempt(made.choice((("fall", made.choice(sorted(slow.kept) or [0])), ("lose", made.choice(on_way or [0])),
                             ("lose", made.choice(on_way or [0])), ("pass", made.choice(on_way or [0])),
                             ("get", made.choice(CLIENTS), made.choice((0, 25))),
                             ("put", made.choice(CLIENTS), 0, 1))))
    return player, slow


def drawn_scene(seed):
    """An ask of an elder epoch, behind which several epochs began; fences and letters come, stay or are lost."""
    made = random.Random(seed)
    ring = Ring(*[(10 * at, "a") for at in range(made.randint(4, 6))])
    lots = Lots(*made.choice(((2, 2), (1, 2), (2, 1), (2, 2), (1, 1))))
    cares = made.choice((("early",), ("early",), ("early", "stamp"), ("back", "early")))
    store = Store(ring, Book({"": 0}, most=made.choice((2, 2, 3))), lots, cares)
    player, slow = Player(store), SlowStore(store)

    def attempt(step):
        if slow.error_of(step) is None:
            player.step(step)
            slow.do(step)

    def weather(words, chances):
        for number in [number for number, letter in enumerate(slow.letters) if letter[0] and letter[3] in words]:
            word = made.choices(("pass", "twin", "lose", "stay"), chances)[0]
            if word != "stay":
                attempt((word, number))

    attempt(made.choice((("put", "p", 0, 1), ("get", "p", 0))))
    weather(("hear",), (1, 0, 0, 6))
    for _ in range(made.choice((1, 2, 3, 3, 4, 4))):
        gone = made.choice(sorted(slow.rings[-1]) or [77])
        attempt(made.choice((("begin", ("go", gone)), ("begin", ("go", gone)), ("begin", ("come", made.randint(1, 9), "a")))))
    for _ in range(made.choice((1, 1, 2))):
        weather(("fence",), (1, 1, 4, 5))
        weather(("hear", "keep"), (2, 1, 1, 4))
        weather(("heard", "kept", "refused"), (1, 0, 0, 5))
    if made.random() < 0.3:
        attempt(("tell", "p"))
    # Mostly neither the newest epoch nor the eldest one will do.
    attempt(("fall", made.choice(slow.copies(0, len(slow.rings) - 1) or [0])))
    attempt(("fall", made.choice(slow.copies(0, 0))))
    attempt(("fall", made.choice(sorted(slow.kept)) if made.random() < 0.3 else 77))
    return player, slow


class DrawnPlays(Case):
    def test_drawn_scenes(self):
        counts = {True: 0, False: 0}
        through = 0
        for seed in range(2500):
            player, slow = drawn_scene(seed)
            if slow.running("p") is not None:
                told = self.look(player, slow, "p")
                counts[told] += 1
                passed = [step[1] for step in (ends(player, "p").steps if told else ()) if step[0] == "pass"]
                through += any(slow.letters[number][3] == "fence" for number in passed if number < len(slow.letters))
        self.assertGreater(min(counts.values()), 300)
        self.assertGreater(through, 25)

    def test_scenes_against_a_search(self):
        counts = {True: 0, False: 0, None: 0}
        for seed in range(220):
            player, slow = drawn_scene(100000 + seed)
            if slow.running("p") is not None:
                wanted = can_end(slow, "p")
                counts[wanted] += 1
                self.assertIn(wanted, (None, bool(ends(player, "p"))))
        self.assertGreater(min(counts[True], counts[False]), 40)
        self.assertLess(counts[None], 20)

    def look(self, player, slow, client):
        """Whether the ask ends; its paper is looked at."""
        told, rows = ends(player, client), rows_model(slow, client)
        wanted = is_enough(slow, client, rows)
        self.assertIs(bool(told), wanted)
        self.assertIs(shows_ends(player, client, told), True)
        if wanted:
            self.look_at_steps(slow, client, told)
        else:
            self.assertSame(vars(told), {"rows": told_rows(rows)})
        return wanted

    def look_at_steps(self, slow, client, told):
        self.assertIs(type(told), Ends)
        number, replay = slow.running(client)["number"], SlowStore(slow.store)
        for step in slow.deeds:
            replay.do(step)
        for step in told.steps:
            self.assertIsNone(replay.asks[number]["ended"])
            self.assertTrue(step[0] == "pass" or step[0] in ("tell", "again") and step[1] == client)
            self.assertIsNone(replay.error_of(step))
            replay.do(step)
        self.assertIsNotNone(replay.asks[number]["ended"])

    def test_drawn_plays(self):
        counts = {True: 0, False: 0}
        for seed in range(420):
            cares = () if seed % 3 else None
            player, slow = drawn_play(20000 + seed, 30 + seed % 90, cares=cares)
            twin = player.twin()
            for client in player.clients:
                if slow.running(client) is not None:
                    counts[self.look(player, slow, client)] += 1
            self.assertTrue(player == twin)
        self.assertGreater(min(counts.values()), 120)

    def test_against_a_search(self):
        counts = {True: 0, False: 0, None: 0}
        for seed in range(300):
            cares = ((), ("stamp",), ("back",), ("early",), ("stamp", "early"))[seed % 5]
            lots = Lots(*random.Random(seed).choice(((1, 2), (2, 2), (2, 1), (1, 1), (3, 2), (2, 3))))
            player, slow = drawn_play(30000 + seed, 20 + seed % 60, cares=cares, lots=lots)
            for client in player.clients:
                if slow.running(client) is not None:
                    wanted = can_end(slow, client)
                    counts[wanted] += 1
                    if wanted is not None:
                        self.assertIs(bool(ends(player, client)), wanted)
        self.assertGreater(min(counts[True], counts[False]), 60)
        self.assertLess(counts[None], counts[True])

    def test_no_other_steps_but_begins_end_a_stuck_ask(self):
        stuck = 0
        for seed in range(200):
            player, slow = drawn_play(40000 + seed, 60, cares=())
            names = [name for name in player.clients if slow.running(name) is not None and not ends(player, name)]
            numbers = [slow.running(name)["number"] for name in names]
            stuck += len(names)
            made = random.Random(seed)
            for _ in range(80 if names else 0):
                step = drawn_step(made, slow)
                if step[0] != "begin" and slow.error_of(step) is None:
                    slow.do(step)
            self.assertTrue(all(slow.asks[number]["ended"] is None for number in numbers))
        self.assertGreater(stuck, 60)


def stuck_player():
    """The example of the document: three must keep, and one of three copies has fallen."""
    player = plain_player(hosts=4, place=1)
    player.run(("put", "p", 7, 5), ("fall", 1))
    return player


STUCK = ((0, 1, (0, 2)), (0, 1, (0, 2)), (0, 2, (0, 2)))


class Edges(Case):
    def test_answers_on_the_way_of_fallen_hosts(self):
        player = plain_player(hosts=3, lots=Lots(2, 3))
        player.run(("put", "p", 0, 1))
        give(player, "hear", (0, 10))
        give(player, "heard")
        give(player, "keep")
        player.run(("fall", 0), ("fall", 10), ("fall", 20))
        told = ends(player, "p")
        self.assertSame(sorted(step[0] for step in told.steps), ["pass"] * 3)
        self.assertTrue(shows_ends(player, "p", told))
        player.step(("lose", told.steps[0][1]))
        self.assertSame(vars(ends(player, "p")), {"rows": ((0, 2, (10, 20)), (0, 2, ()))})

    def test_letters_that_were_lost_are_sent_anew(self):
        player = plain_player(hosts=2, most=2, lots=Lots(2, 2), place=1)
        player.run(("put", "p", 0, 7), ("lose", 1))
        told = ends(player, "p")
        self.assertIn(("again", "p"), told.steps)
        player.run(*told.steps)
        self.assertIsNotNone(player.history(0)[0].ended)

    def test_a_newer_ring_helps(self):
        player = stuck_player()
        self.assertTrue(ends(player, "p") == Stuck(STUCK))
        player.step(("begin", ("go", 1)))
        told = ends(player, "p")
        self.assertSame([step for step in told.steps if step[0] != "pass"], [("tell", "p"), ("again", "p")])

    def test_fences_on_the_way_lead_to_elder_epochs(self):
        """The newest epoch lacks a host; only a fence that comes first leads to the epoch between."""
        player = plain_player(hosts=5, lots=Lots(2, 2), most=2, cares=("early",), place=10)
        player.run(("get", "p", 0), ("begin", ("go", 0)), ("begin", ("turn", 40, "b")), ("begin", ("go", 10)))
        # Copies: 0 10, then 10 20 twice, then 20 30.
        player.run(("fall", 30), ("fall", 0))
        told = ends(player, "p")
        self.assertTrue(told)
        self.assertTrue(shows_ends(player, "p", told))
        passed = [player.letter(step[1]).word for step in told.steps
                  if step[0] == "pass" and step[1] in {letter.number for letter in player.letters()}]
        self.assertIn("fence", passed)
        player.run(*told.steps)
        self.assertIsNotNone(player.history(0)[0].ended)

    def test_refused_letters_on_the_way(self):
        player = plain_player(hosts=4, lots=Lots(2, 2), most=2, cares=("early",))
        player.run(("get", "p", 0), ("begin", ("go", 0)))
        give(player, "fence", (10,))
        give(player, "hear", (10,))
        self.assertSame([letter.word for letter in player.letters() if letter.receiver == "p"], ["refused"])
        player.run(("begin", ("turn", 30, "b")), ("begin", ("go", 10)), ("fall", 0), ("fall", 30))
        told = ends(player, "p")
        self.assertTrue(shows_ends(player, "p", told))
        player.run(*told.steps)
        self.assertIsNotNone(player.history(0)[0].ended)

    def middle_player(self, fences):
        """A play in which only the epoch 2 of four will do, and only a fence to the host 10 leads there.

        The client knows the epoch 1. Copies: 0 10, then 0 5, then 5 10, then 2 5; the hosts 0 and 2 have fallen.
        """
        player = plain_player(hosts=4, lots=Lots(2, 2), most=2, cares=("early",))
        player.run(("get", "p", 0), ("begin", ("come", 5, "a")), ("tell", "p"), ("begin", ("go", 0)), ("begin", ("come", 2, "a")))
        self.assertSame([player.copies_of(0, epoch) for epoch in range(4)], [(0, 10), (0, 5), (5, 10), (2, 5)])
        player.run(("fall", 0), ("fall", 2))
        for letter in list(player.letters()):
            if letter.word == "fence" and (letter.receiver != 10 or letter.parts[0] not in fences):
                player.step(("lose", letter.number))
        return player

    def test_only_a_letter_of_the_present_try_comes_to_a_host_of_its_epoch(self):
        for fences in ((1,), (0, 1), (0, 1, 2)):
            player = self.middle_player(fences)
            told = ends(player, "p")
            self.assertTrue(shows_ends(player, "p", told))
            self.assertIs(bool(told), True)
            player.run(*told.steps)
            self.assertSame(player.answer(0).put, None)
            # Where the letter to 10 is lost, the client would ask in the epoch 1, of which 10 is no copy.
            player = self.middle_player(fences)
            player.step(("lose", on_way(player, "hear", receiver=10)[0]))
            rows = told_rows(rows_model(replayed(player), "p"))
            self.assertSame(vars(ends(player, "p")), {"rows": rows})
            self.assertSame({row[0] for row in rows}, {0, 1, 3})

    def test_fences_that_are_no_help(self):
        """A host that has closed a later epoch already tells that one, whatever fence comes."""
        player = self.middle_player((1, 2))
        player.step(("pass", on_way(player, "fence", receiver=10, parts=(2,))[0]))
        self.assertSame(player.host(10).closed, 2)
        rows = told_rows(rows_model(replayed(player), "p"))
        self.assertSame({row[0] for row in rows}, {0, 1, 3})
        self.assertSame(vars(ends(player, "p")), {"rows": rows})

    def test_refused_letters_of_a_fallen_host(self):
        """Only what a host told ahead of its fall leads to the epoch 2; another host tells the epoch 1."""
        player = self.middle_player((1,))
        player.step(("pass", on_way(player, "fence", receiver=10)[0]))
        player.step(("pass", on_way(player, "hear", receiver=10)[0]))
        player.step(("twin", on_way(player, "refused")[0]))
        self.assertSame([player.asking("p").epoch, player.known("p")], [2, 2])
        player = self.middle_player((1,))
        player.step(("pass", on_way(player, "fence", receiver=10)[0]))
        player.step(("pass", on_way(player, "hear", receiver=10)[0]))
        told = ends(player, "p")
        self.assertTrue(told)
        self.assertSame(told.steps[0], ("pass", on_way(player, "refused")[0]))
        player.run(("fall", 10))
        self.assertSame({row[0] for row in ends(player, "p").rows}, {0, 1, 2, 3})
        player.run(("lose", on_way(player, "refused")[0]))
        self.assertSame({row[0] for row in ends(player, "p").rows}, {0, 1, 3})

    def test_the_right_one_of_two_refused_letters(self):
        """Both copies of the epoch 0 refuse: the one tells the epoch 1, the other one the epoch 2."""
        player = plain_player(hosts=6, lots=Lots(2, 2), most=2, cares=("early",))
        player.run(("get", "p", 0), ("begin", ("come", 5, "a")), ("begin", ("go", 0)), ("begin", ("come", 2, "a")))
        for place, epoch in ((0, 0), (10, 1)):
            player.step(("pass", on_way(player, "fence", receiver=place, parts=(epoch,))[0]))
            player.step(("pass", on_way(player, "hear", receiver=place)[0]))
        self.assertSame([player.letter(number).parts[2] for number in on_way(player, "refused")], [1, 2])
        for letter in list(player.letters()):
            if letter.word == "fence":
                player.step(("lose", letter.number))
        player.run(("fall", 0), ("fall", 2))
        told = ends(player, "p")
        self.assertSame(told.steps[0], ("pass", on_way(player, "refused")[1]))
        self.assertTrue(shows_ends(player, "p", told))

    def test_the_right_host_to_refuse(self):
        """The first host that is asked has no such fence on the way, or has closed too much."""
        for fences in ((), (0,), (1, 2)):
            player = plain_player(hosts=6, lots=Lots(2, 2), most=3, cares=("early",))
            player.run(("get", "p", 0), ("begin", ("go", 20)), ("begin", ("go", 30)), ("begin", ("go", 40)))
            # Copies: 0 10 20, then 0 10 30, then 0 10 40, then 0 10 50.
            for letter in list(player.letters()):
                if letter.word == "fence" and (letter.receiver, *letter.parts) != (10, 1) and not (
                        letter.receiver == 0 and letter.parts[0] in fences):
                    player.step(("lose", letter.number))
            if fences == (1, 2):
                player.step(("pass", on_way(player, "fence", receiver=0, parts=(2,))[0]))
            player.run(("fall", 20), ("fall", 30), ("fall", 50))
            told = ends(player, "p")
            self.assertTrue(told)
            self.assertTrue(shows_ends(player, "p", told))
            player.step(("fall", 0))
            told = ends(player, "p")
            self.assertTrue(told)
            self.assertTrue(shows_ends(player, "p", told))
            self.assertSame(max(step[0] == "again" for step in told.steps), False)

    def test_the_client_knows_a_newer_epoch(self):
        """The round 2 that the present answers lead to is in the elder epoch; the client knows a newer one."""
        player = plain_player(hosts=4, lots=Lots(1, 3), place=1)
        player.run(("put", "p", 0, 5), ("begin", ("go", 0)), ("tell", "p"), ("fall", 3))
        told = ends(player, "p")
        self.assertTrue(told)
        self.assertNotIn("again", [step[0] for step in told.steps])
        player.run(("fall", 0))
        self.assertSame(vars(ends(player, "p")), {"rows": ((0, 1, (1, 2)), (0, 2, (1, 2)), (1, 1, (1, 2)), (1, 2, (1, 2)))})

    def test_cares_left_out(self):
        for cares, word, wanted in (((), "get", False), (("back",), "get", True), (("back",), "put", False)):
            player = plain_player(hosts=3, lots=Lots(2, 3), cares=cares)
            player.run((word, "p", 0) if word == "get" else (word, "p", 0, 1), ("fall", 20))
            self.assertIs(bool(ends(player, "p")), wanted)
            if wanted:
                player.run(*ends(player, "p").steps)
                self.assertIsNotNone(player.history(0)[0].ended)
        # Without its stamp an ask that goes on hears anew.
        for cares, rows in (((), ((0, 2, (0, 10)), (0, 2, (0, 10)))),
                            (("stamp",), ((0, 2, (0, 10)), (0, 1, (0, 10)), (0, 2, (0, 10))))):
            player = plain_player(hosts=3, lots=Lots(2, 3), cares=cares)
            player.step(("put", "p", 0, 1))
            give(player, "hear", (0, 10))
            give(player, "heard")
            player.step(("fall", 20))
            self.assertSame(vars(ends(player, "p")), {"rows": rows})

    def test_keys_of_no_copies(self):
        player = plain_player(hosts=0)
        player.step(("get", "p", 3))
        self.assertSame(vars(ends(player, "p")), {"rows": ((0, 1, ()), (0, 1, ()))})

    def test_a_play_of_two_thousand_steps(self):
        for player in (stuck_player(), plain_player()):
            player.run(("put", "q", 0, 1))
            while player.clock < 2000:
                player.step(("tell", "z"))
            for client in [name for name in player.clients if player.asking(name)]:
                told = ends(player, client)
                self.assertTrue(shows_ends(player, client, told))
            self.assertSame(player.clock, 2000)
        self.assertTrue(told)
        self.assertTrue(ends(stuck_player(), "p") == Stuck(STUCK))

    def test_many_epochs(self):
        player = plain_player(hosts=8, lots=Lots(2, 2), cares=("early",))
        player.step(("get", "p", 0))
        for number in range(59):
            player.step(("begin", ("turn", 0, "ab"[number % 2 == 0])))
        self.assertSame(player.epoch, 59)
        player.run(("fall", 10), ("fall", 20))
        told = ends(player, "p")
        self.assertSame(len(told.rows), 1 + 2 * 0 + 60)
        self.assertTrue(shows_ends(player, "p", told))


class SeveralEpochs(Case):
    """Asks that go on through several epochs; no begin is left out of waiting."""

    def sliding_player(self, *first, lots=None, cares=(), most=2, many=5):
        """An ask of the epoch 0, behind which many epochs began and settled, a host going with each of them.

        The first copy in the epoch n is the host 10 n, the others come behind it. The host 10 n has closed n, but
        no host has closed the newest epoch.
        """
        player = plain_player(hosts=many + 3, most=most, lots=Lots(2, 2) if lots is None else lots, cares=cares)
        player.run(*first)
        for number in range(many):
            player.step(("begin", ("go", 10 * number)))
            settle(player)
        for epoch in range(many + 1):
            self.assertSame(player.copies_of(0, epoch), tuple(10 * (epoch + at) for at in range(most)))
            self.assertSame(player.host(10 * epoch).closed, min(epoch, many - 1))
        self.assertIs(player.is_settled, True)
        return player

    def look_at_rows(self, player, wanted):
        """The ask of p is stuck with just these rows; no fewer, no others and no steps show it."""
        slow = replayed(player)
        self.assertSame(told_rows(rows_model(slow, "p")), wanted)
        self.assertIs(can_end(slow, "p"), False)
        told = ends(player, "p")
        self.assertIs(type(told), Stuck)
        self.assertSame(told.rows, wanted)
        self.assertIs(shows_ends(player, "p", told), True)
        for at in range(len(wanted)):
            self.assertIs(shows_ends(player, "p", Stuck((*wanted[:at], *wanted[at + 1:]))), False)
        for word in (("tell", "p"), ("again", "p")):
            self.assertIs(shows_ends(player, "p", Ends((word,))), False)

    def epochs_of(self, player):
        """The epochs that the ask of p goes through by the steps of its Ends, which are done."""
        told = ends(player, "p")
        self.assertIs(type(told), Ends)
        self.assertIs(shows_ends(player, "p", told), True)
        self.assertIs(shows_ends(player, "p", Ends(told.steps[:-1])), False)
        epochs = [player.asking("p").epoch]
        for step in told.steps:
            self.assertTrue(player.asking("p"))
            player.step(step)
            if player.asking("p") and player.asking("p").epoch != epochs[-1]:
                epochs.append(player.asking("p").epoch)
        self.assertFalse(player.asking("p"))
        return epochs

    def test_rows_behind_several_refusals(self):
        player = self.sliding_player(("get", "p", 0))
        player.step(("fall", 60))
        # 0 and 10 tell 1 and 2; from there on 20 and 30 tell 3 and 4.
        self.look_at_rows(player, ((0, 1, ()), (0, 1, ()), (1, 1, ()), (2, 1, ()), (3, 1, ()), (4, 1, ()), (5, 1, (50,))))
        player.run(("fall", 10), ("fall", 30))
        # Without 10 and 30 the epoch 1 is told by 0, the epoch 3 by 20 in the epoch 1: neither tells 2 or 4.
        self.look_at_rows(player, ((0, 1, ()), (0, 1, ()), (1, 1, ()), (3, 1, ()), (5, 1, (50,))))
        player.step(("fall", 0))
        self.look_at_rows(player, ((0, 1, ()), (0, 1, ()), (5, 1, (50,))))

    def test_rows_of_an_ask_that_has_a_stamp(self):
        for cares, stage in (((), 2), (("stamp",), 1)):
            player = self.sliding_player(("put", "p", 0, 7), ("pass", 0), ("pass", 1), ("pass", 2), ("pass", 3), cares=cares)
            self.assertSame(player.asking("p").stage, 2)
            player.step(("fall", 60))
            self.look_at_rows(player, ((0, 2, ()), *[(epoch, stage, ()) for epoch in range(5)], (5, stage, (50,))))

    def test_the_round_two_behind_several_refusals(self):
        """One host is enough to be heard in the epoch 5, but not to keep; its round 2 has a row of its own."""
        player = self.sliding_player(("put", "p", 0, 7), lots=Lots(1, 2))
        player.run(("fall", 60), ("fall", 10), ("fall", 30))
        self.look_at_rows(player, ((0, 1, ()), (0, 1, ()), (1, 1, ()), (3, 1, ()), (5, 1, (50,)), (5, 2, (50,))))

    def test_steps_through_several_epochs(self):
        """The newest epoch lacks a host; the one ahead of it is reached by refusals alone, one behind the other."""
        for word in (("get", "p", 0), ("put", "p", 0, 7)):
            # Where some hosts have fallen there is one way alone.
            for fallen, wanted in (((), None), ((20,), None), ((10, 30), [0, 1, 3, 5]), ((0, 20, 40), [0, 2, 4, 5])):
                player = self.sliding_player(word)
                player.run(("begin", ("go", 50)), ("fall", 70), *[("fall", place) for place in fallen])
                self.assertSame([player.epoch, player.copies_of(0, 6)], [6, (60, 70)])
                self.assertIs(can_end(replayed(player), "p"), True)
                epochs = self.epochs_of(player)
                self.assertSame([epochs[0], epochs[-1]], [0, 5])
                self.assertSame(epochs, sorted(set(epochs)) if wanted is None else wanted)

    def test_one_host_less_stops_the_way(self):
        player = self.sliding_player(("get", "p", 0))
        player.run(("begin", ("go", 50)), ("fall", 70), ("fall", 10), ("fall", 20))
        # 0 alone tells an epoch, the epoch 1, and no copy of that one stands.
        self.look_at_rows(player, ((0, 1, ()), (0, 1, ()), (1, 1, ()), (6, 1, (60,))))

    def test_each_epoch_is_told_by_the_one_ahead_alone(self):
        for many in (1, 2, 5, 12, 25):
            player = self.sliding_player(("get", "p", 0), lots=Lots(1, 1), most=1, many=many)
            twin = player.twin()
            player.step(("fall", 10 * many))
            rows = [(epoch, 1, ()) for epoch in range(many + 1)]
            self.look_at_rows(player, (rows[0], *rows))
            # A host that has fallen tells nothing: the epochs behind it are not reached but the newest one.
            player.step(("fall", 10 * (many // 2)))
            self.look_at_rows(player, (rows[0], *rows[:many // 2 + 1], *rows[max(many, many // 2 + 1):]))
            twin.run(("begin", ("go", 10 * many)), ("fall", 10 * many + 10))
            self.assertSame(self.epochs_of(twin), list(range(many + 1)))


class Looker(Case):
    def test_steps_otherwise(self):
        player = plain_player(hosts=4, place=1)
        player.run(("put", "p", 7, 5), ("tell", "q"), ("put", "r", 0, 5))
        steps = ends(player, "p").steps
        self.assertIs(shows_ends(player, "p", Ends(steps)), True)
        self.assertIs(shows_ends(player, "p", Ends(list(steps))), False)
        self.assertIs(shows_ends(player, "p", Ends((("tell", "p"), *steps))), True)
        self.assertIs(shows_ends(player, "p", Ends((*steps, ("tell", "p")))), False)
        self.assertIs(shows_ends(player, "p", Ends((("pass", 4), *steps[:-1], ("pass", 99)))), False)
        for at in range(len(steps)):
            self.assertIs(shows_ends(player, "p", Ends(steps[:at])), False)
            for value in (*STRANGE, ("tell", "q"), ("again", "r"), ("twin", 0), ("lose", 4), ("settle",), ("get", "p", 7),
                          ("drop", "r"), ("fall", 3), ("begin", ("go", 3)), ["tell", "p"], ("again", "q"), ("pass", 77)):
                self.assertIs(shows_ends(player, "p", Ends((*steps[:at], value, *steps[at:]))), False)
        self.assertSame(player.clock, 3)

    def test_rows_otherwise(self):
        player = stuck_player()
        self.assertIs(shows_ends(player, "p", Stuck(STUCK)), True)
        for at, row in enumerate(STUCK):
            for part in range(3):
                for value in (*STRANGE, 0, 1, 2, (0,), (2, 0), [0, 2], (0, 2, 3), (0, True)):
                    if value != row[part] or type(value) is not type(row[part]):
                        other = (*row[:part], value, *row[part + 1:])
                        self.assertIs(shows_ends(player, "p", Stuck((*STUCK[:at], other, *STUCK[at + 1:]))), False)
            self.assertIs(shows_ends(player, "p", Stuck(STUCK[:at])), False)
            self.assertIs(shows_ends(player, "p", Stuck((*STUCK, row))), False)
        self.assertIs(shows_ends(player, "p", Stuck(list(STUCK))), False)
        self.assertIs(shows_ends(player, "p", Stuck((STUCK[0], STUCK[2], STUCK[1]))), False)
        for value in (*STRANGE, STUCK, player, Ends, Ends(()), Ends(STUCK)):
            self.assertIs(shows_ends(player, "p", value), False)
            self.assertIs(shows_ends(player, "p", Stuck(value if value != STUCK else None)), False)
            self.assertIs(shows_ends(player, "p", Ends(value)), False)

    def test_right_rows_of_an_ask_that_ends(self):
        player = plain_player()
        player.step(("put", "p", 0, 1))
        rows = told_rows(rows_model(replayed(player), "p"))
        self.assertSame(rows, ((0, 1, (0, 10, 20)), (0, 1, (0, 10, 20)), (0, 2, (0, 10, 20))))
        self.assertIs(shows_ends(player, "p", Stuck(rows)), False)

    def test_errors(self):
        player = stuck_player()
        player.run(("tell", "q"), ("get", "r", 0), ("drop", "r"))
        ask(player, "get", "s", 999999999, read=(0, 2, 3), keep=(0, 2, 3))
        settle(player)
        for work in (ends, lambda one, other: shows_ends(one, other, None)):
            for value in (*STRANGE, player.store, Player):
                self.assertRaisesJust(BadPlayer("player"), work, value, None)
            for value in (*STRANGE, "z", ("p",), 0):
                self.assertRaisesJust(NoClient(value), work, player, value)
            for name in ("q", "r"):
                self.assertRaisesJust(Clashing("idle"), work, player, name)
        done = plain_player()
        ask(done, "get", "s", 0)
        self.assertRaisesJust(Clashing("idle"), ends, done, client="s")
        self.assertRaisesJust(NoClient("p"), shows_ends, client="p", player=Player(Store(Ring(), Book({}), Lots(1, 1))), value=1)


if __name__ == "__main__":
    unittest.main()
