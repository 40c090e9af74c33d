"""What the steps of a play do: asks, hosts, the keeper, and the cares: points 6 to 9."""

import unittest

from stayopen.books import Book
from stayopen.lots import Lots
from stayopen.player import Player
from stayopen.rings import Ring
from stayopen.stamps import Kept, nothing
from stayopen.store import Store
from tests.helpers import Case
from tests.scenes import ask, give, letters, on_way, plain_player, settle
from tests.test_plays import fits_an_order

LAST = 999999999


def stamps(player, key, *places):
    """The stamps that the hosts at some places keep for a key."""
    return [player.host(place).kept(key).stamp for place in places]


class Asks(Case):
    def test_round_1_sends_to_the_copies_in_the_order_of_the_walk(self):
        player = plain_player(4, most=3)
        player.run(("put", "p", 11, -7), ("get", "q", LAST))
        self.assertSame(letters(player), [
            (0, "p", 20, "hear", (0, 0, 0, 11)), (1, "p", 30, "hear", (0, 0, 0, 11)), (2, "p", 0, "hear", (0, 0, 0, 11)),
            (3, "q", 0, "hear", (1, 0, 0, LAST)), (4, "q", 10, "hear", (1, 0, 0, LAST)), (5, "q", 20, "hear", (1, 0, 0, LAST))])
        player = plain_player(0)
        player.step(("put", "p", 0, 0))
        self.assertSame([letters(player), player.asking("p").stage], [[], 1])

    def test_round_2_sends_what_is_to_be_kept(self):
        player = plain_player(3, lots=Lots(2, 2))
        player.step(("put", "p", 5, 7))
        give(player, "hear", (10, 0))
        self.assertSame([letter[1:4] for letter in letters(player)],
                        [("p", 20, "hear"), (10, "p", "heard"), (0, "p", "heard")])
        give(player, "heard")
        told = [letter for letter in player.letters() if letter.word == "keep"]
        self.assertSame([letter.receiver for letter in told], [10, 20, 0])
        for letter in told:
            self.assertTrue(letter.parts == (0, 1, 0, 5, Kept((1, "p"), 0, 7)))
        give(player, "keep", (0,))
        self.assertSame([stamps(player, 5, 0, 10), player.answer(0)], [[(1, "p"), (0, "")], None])
        give(player, "kept")
        give(player, "keep", (20,))
        self.assertIsNone(player.answer(0))
        give(player, "kept")
        self.assertTrue(player.answer(0) == Kept((1, "p"), 0, 7))
        # What comes behind the end plays no part for the ask; a host keeps it all the same.
        give(player, "keep")
        self.assertSame([stamps(player, 5, 10), player.asking("p")], [[(1, "p")], None])

    def test_each_host_is_noted_once_with_its_first_answer(self):
        player = plain_player(3, lots=Lots(2, 2))
        player.run(("get", "q", 0), ("twin", 0), ("put", "p", 0, 5))
        for number in on_way(player, "hear", sender="p"):
            player.step(("pass", number))
        give(player, "heard", (0, 10, 20))
        self.assertSame([player.asking("q").noted, player.asking("p").stage], [(0,), 2])
        give(player, "keep", (0, 10))
        # The second answer of the same host is the greater one, and comes too late.
        player.step(("pass", 0))
        give(player, "heard", (0,))
        self.assertSame(player.asking("q").noted, (0,))
        player.step(("pass", 2))
        give(player, "heard", (20,))
        self.assertTrue(player.asking("q").kept == nothing())

    def test_numbers_of_stamps(self):
        player = plain_player(3, lots=Lots(1, 1))
        ask(player, "put", "bob", 0, 1, keep=(0,))
        ask(player, "put", "ann", 0, 2, read=(10,), keep=(10,))
        self.assertSame(stamps(player, 0, 0, 10, 20), [(1, "bob"), (1, "ann"), (0, "")])
        # 1 more than the greatest number heard, and than the last one of the client for any key.
        ask(player, "put", "ann", 0, 3, read=(0,), keep=(20,))
        ask(player, "put", "ann", 7, 4, keep=(20,))
        self.assertSame([stamps(player, 0, 20), stamps(player, 7, 20)], [[(2, "ann")], [(3, "ann")]])
        ask(player, "put", "zoe", 0, 5, read=(20,), keep=(20,))
        self.assertSame(stamps(player, 0, 20), [(3, "zoe")])
        # A get moves no number.
        ask(player, "get", "bob", 0, read=(20,))
        ask(player, "put", "bob", 9, 6, read=(10,), keep=(0,))
        self.assertSame(stamps(player, 9, 0), [(2, "bob")])

    def test_a_get_tells_the_greatest_stamp_and_writes_it_back(self):
        player = plain_player(3, lots=Lots(2, 1))
        ask(player, "put", "bob", 0, 1, read=(0, 10), keep=(0,))
        ask(player, "put", "ann", 0, 2, read=(10, 20), keep=(10,))
        self.assertSame(stamps(player, 0, 0, 10, 20), [(1, "bob"), (1, "ann"), (0, "")])
        ask(player, "get", "p", 0, read=(10, 20), keep=(20,))
        self.assertSame([player.history(0)[2].told, stamps(player, 0, 0, 10, 20)], [1, [(1, "bob"), (1, "ann"), (1, "ann")]])
        ask(player, "get", "p", 0, read=(0, 10), keep=(20,))
        self.assertSame([player.history(0)[3].told, stamps(player, 0, 0, 10, 20)], [0, [(1, "bob"), (1, "ann"), (1, "bob")]])
        self.assertSame([player.answer(3).value, player.answer(3).put, player.answer(3).stamp], [1, 0, (1, "bob")])

    def test_a_get_of_nothing_goes_through_both_rounds(self):
        player = plain_player(3, lots=Lots(2, 2))
        ask(player, "get", "p", 0, keep=())
        told = [letter.parts for letter in player.letters() if letter.word == "keep"]
        self.assertTrue(told == [(0, 1, 0, 0, nothing())] * 3)
        give(player, "keep")
        give(player, "kept")
        self.assertTrue(player.answer(0) == nothing())
        self.assertSame([len(player.host(place)) for place in (0, 10, 20)], [0, 0, 0])

    def test_keys_with_too_few_copies(self):
        player = plain_player(2, lots=Lots(2, 3))
        ask(player, "put", "p", 0, 1)
        self.assertSame([player.asking("p").stage, player.asking("p").noted, on_way(player)], [2, (0, 10), []])
        player = plain_player(1, lots=Lots(2, 1))
        ask(player, "get", "p", 0)
        self.assertSame([player.asking("p").stage, player.asking("p").noted], [1, (0,)])

    def test_again(self):
        player = plain_player(3, lots=Lots(2, 2))
        player.run(("put", "p", 0, 1), ("pass", 0), ("pass", 1), ("again", "p"))
        self.assertSame([player.asking("p").attempt, player.asking("p").stage, player.asking("p").noted], [1, 1, ()])
        # The answers to the elder try play no part.
        give(player, "heard")
        self.assertSame([player.asking("p").noted, on_way(player, "heard"), len(on_way(player, "hear"))], [(), [], 4])
        for number in on_way(player, "hear")[1:]:
            player.step(("pass", number))
        give(player, "heard")
        self.assertSame([player.asking("p").attempt, player.asking("p").stage], [2, 2])
        give(player, "keep", (0,))
        give(player, "kept")
        player.step(("again", "p"))
        told = player.asking("p")
        self.assertSame([told.attempt, told.stage, told.noted, told.kept.stamp], [3, 2, (), (1, "p")])
        # Letters of the elder try still come to hosts, which keep.
        give(player, "keep", (10, 20))
        self.assertSame(stamps(player, 0, 0, 10, 20), [(1, "p")] * 3)
        give(player, "kept")
        self.assertTrue(player.answer(0) == Kept((1, "p"), 0, 1))

    def test_drop(self):
        player = plain_player(3, lots=Lots(1, 2))
        player.run(("put", "p", 0, 1), ("pass", 0), ("drop", "p"))
        self.assertSame([player.asking("p"), player.clients, player.history(0)[0].ended], [None, ("p",), None])
        player.step(("put", "p", 0, 2))
        give(player, "heard")
        self.assertSame([player.asking("p").ask, player.asking("p").stage, player.asking("p").noted], [1, 1, ()])
        # What was sent by a dropped put is kept, and told by gets.
        give(player, "hear")
        give(player, "heard")
        player.step(("drop", "p"))
        give(player, "keep", (0,))
        ask(player, "get", "q", 0)
        self.assertSame([ask.told for ask in player.history(0)], [None, None, 1])

    def test_twin_and_lose(self):
        player = plain_player(3, lots=Lots(1, 2))
        player.run(("get", "p", 0), ("twin", 0), ("twin", 0), ("lose", 1))
        self.assertSame([letter[:4] for letter in letters(player)], [(0, "p", 0, "hear"), (2, "p", 20, "hear"),
                                                                     (3, 0, "p", "heard"), (4, 0, "p", "heard")])
        player.run(("twin", 3), ("twin", 3), ("pass", 3), ("lose", 4))
        self.assertSame([player.asking("p").stage, len(on_way(player, "keep"))], [2, 3])
        give(player, "keep", (0,))
        answer = on_way(player, "kept")[0]
        player.run(("twin", answer), ("twin", answer))
        self.assertSame([player.asking("p").noted, answer in on_way(player)], [(0,), True])

    def test_tell(self):
        player = plain_player(4)
        player.step(("begin", ("go", 0)))
        player.step(("tell", "p"))
        self.assertSame([player.known("p"), player.clients, player.asking("p")], [1, ("p",), None])
        player.run(("get", "p", 0), ("get", "q", 0))
        self.assertSame([player.asking(name).epoch for name in "pq"], [1, 0])
        # An ask stays in its epoch until it goes on.
        player.step(("tell", "q"))
        self.assertSame([player.known("q"), player.asking("q").epoch, player.asking("q").attempt], [1, 0, 0])
        player.step(("again", "q"))
        self.assertSame([player.asking("q").epoch, player.asking("q").attempt], [1, 1])
        self.assertSame([letter.receiver for letter in player.letters() if letter.sender == "q"][-3:], [10, 20, 30])


class Hosts(Case):
    def test_refused_in_round_1(self):
        player = plain_player(4, lots=Lots(2, 2))
        player.run(("put", "p", 0, 1), ("pass", 0), ("begin", ("go", 10)))
        give(player, "heard")
        give(player, "fence", (10,))
        give(player, "hear", (10,))
        self.assertSame([letter.parts for letter in player.letters() if letter.word == "refused"], [(0, 0, 1)])
        give(player, "refused")
        told = player.asking("p")
        self.assertSame([player.known("p"), told.epoch, told.attempt, told.stage, told.noted], [1, 1, 1, 1, ()])
        self.assertSame([letter.receiver for letter in player.letters() if letter.parts[:2] == (0, 1)], [0, 20, 30])

    def test_refused_in_round_2_keeps_the_stamp(self):
        player = plain_player(4, lots=Lots(2, 3))
        ask(player, "put", "p", 0, 1, keep=(0,))
        player.step(("begin", ("go", 0)))
        give(player, "fence", (10,))
        give(player, "keep", (10,))
        give(player, "refused")
        told = player.asking("p")
        self.assertSame([told.epoch, told.attempt, told.stage, told.kept.stamp], [1, 2, 2, (1, "p")])
        self.assertSame([letter.receiver for letter in player.letters() if letter.parts[:3] == (0, 2, 1)], [10, 20, 30])
        # A closed epoch is no newer one: the same host answers there.
        give(player, "keep", (10,))
        self.assertSame(stamps(player, 0, 10), [(1, "p")])

    def test_refused_by_a_host_that_is_noted(self):
        player = plain_player(4, lots=Lots(2, 2))
        player.run(("get", "p", 0), ("twin", 0))
        give(player, "heard")
        player.step(("begin", ("go", 10)))
        give(player, "fence", (0,))
        player.step(("pass", 0))
        give(player, "refused")
        self.assertSame([player.asking("p").epoch, player.asking("p").attempt], [1, 1])

    def test_refused_of_an_elder_try(self):
        player = plain_player(4, lots=Lots(2, 2))
        player.run(("get", "p", 0), ("begin", ("go", 10)), ("again", "p"))
        give(player, "fence", (0,))
        player.step(("pass", 0))
        give(player, "refused")
        self.assertSame([player.known("p"), player.asking("p").attempt], [0, 1])
        player.run(("drop", "p"), ("get", "p", 0))
        give(player, "hear", (0,))
        refused = on_way(player, "refused")
        self.assertSame(len(refused), 2)
        player.step(("pass", refused[0]))
        self.assertSame(player.known("p"), 0)
        player.step(("pass", refused[1]))
        self.assertSame(player.known("p"), 1)

    def test_a_client_goes_on_in_the_epoch_that_it_knows(self):
        player = plain_player(4, most=2, lots=Lots(2, 2))
        player.step(("get", "p", 0))
        for place in (0, 10):
            player.step(("begin", ("go", place)))
            settle(player)
        player.step(("tell", "p"))
        player.step(("pass", 0))
        self.assertSame(player.letter(on_way(player, "refused")[0]).parts, (0, 0, 1))
        give(player, "refused")
        self.assertSame([player.known("p"), player.asking("p").epoch], [2, 2])

    def test_fallen_hosts(self):
        player = plain_player(3, lots=Lots(1, 2))
        player.run(("put", "p", 0, 1), ("pass", 1), ("fall", 10), ("fall", 0), ("pass", 0))
        # A letter that comes to a fallen host does nothing; those from it stay.
        self.assertSame([letter[:4] for letter in letters(player)], [(2, "p", 20, "hear"), (3, 10, "p", "heard")])
        player.step(("pass", 3))
        give(player, "keep")
        self.assertSame([stamps(player, 0, 0, 10, 20), on_way(player, "keep")], [[(0, ""), (0, ""), (1, "p")], []])
        player.step(("begin", ("go", 0)))
        give(player, "fence")
        self.assertSame([letter.sender for letter in player.letters() if letter.word == "fenced"], [20])
        self.assertSame([player.fallen, player.host(0).closed, player.host(20).closed], [(0, 10), -1, 0])

    def test_hosts_that_have_gone_answer(self):
        player = plain_player(4, lots=Lots(1, 1))
        player.step(("begin", ("go", 0)))
        ask(player, "put", "p", 0, 1, read=(0,), keep=(0,))
        self.assertSame([stamps(player, 0, 0), player.answer(0).stamp], [[(1, "p")], (1, "p")])
        settle(player)
        self.assertSame([player.host(0).closed, 0 in player.fenced(1)], [0, True])


class Keeper(Case):
    def test_fences(self):
        player = plain_player(3)
        player.step(("begin", ("come", 5, "b")))
        self.assertSame(letters(player), [(0, None, 0, "fence", (0,)), (1, None, 10, "fence", (0,)), (2, None, 20, "fence", (0,))])
        player.run(("twin", 0), ("pass", 0))
        self.assertSame(letters(player)[2:], [(3, 0, None, "fenced", (0, ())), (4, 0, None, "fenced", (0, ()))])
        player.run(("pass", 3), ("pass", 4))
        self.assertSame([player.fenced(1), player.is_settled, player.swept(1)], [(0,), False, None])

    def test_the_first_answer_of_a_host_counts(self):
        player = plain_player(4, lots=Lots(2, 2, 2, 0))
        player.step(("begin", ("go", 10)))
        fence = on_way(player, "fence", receiver=0)[0]
        player.run(("twin", fence), ("tell", "q"))
        ask(player, "put", "q", 0, 8, keep=(0,))
        player.step(("pass", fence))
        first, second = on_way(player, "fenced")
        self.assertSame([len(player.letter(number).parts[1]) for number in (first, second)], [0, 1])
        player.run(("pass", second), ("pass", first))
        settle(player, sweep=())
        # What was told by the answer that came first is swept, though another one was sent ahead of it.
        self.assertSame(list(player.swept(1)), [0])

    def test_keys_are_shut_by_spare(self):
        for spare, wanted in ((0, 5), (1, 4), (2, 2)):
            player = plain_player(5, lots=Lots(3, 3, 3, spare))
            player.step(("begin", ("go", 0)))
            for many, place in enumerate((20, 40, 10, 0, 30), 1):
                settle(player, fence=(place,))
                self.assertIs(player.is_settled, many >= wanted)
                self.assertSame(player.swept(1), {} if many >= wanted else None)
            self.assertSame(player.fenced(1), (0, 10, 20, 30, 40))

    def test_keys_that_are_shut_at_once(self):
        for hosts, most, spare, wanted in ((0, 3, 0, True), (1, 3, 0, False), (1, 3, 1, True), (2, 3, 1, False),
                                           (2, 3, 2, True), (4, 2, 2, True), (4, 3, 2, False), (4, 5, 4, True)):
            player = plain_player(hosts, most=most, lots=Lots(5, 5, 5, spare))
            player.step(("begin", ("come", 5, "a")))
            self.assertSame([player.is_settled, player.swept(1)], [True, {}] if wanted else [False, None])
            self.assertSame(len(on_way(player, "fence")), hosts)
        # A book that takes nothing has no copies to shut.
        player = Player(Store(Ring((0, "a")), Book({}), Lots(1, 1)))
        player.step(("begin", ("go", 0)))
        self.assertIs(player.is_settled, True)

    def test_what_is_swept(self):
        player = plain_player(4, lots=Lots(2, 2, 2, 0))
        ask(player, "put", "p", 0, 1, keep=(0, 10))
        ask(player, "put", "p", 25, 2, keep=(0, 10))
        ask(player, "put", "q", 0, 3, keep=(20,))
        player.step(("begin", ("go", 0)))
        give(player, "fence")
        for number in on_way(player, "fenced"):
            self.assertIsNone(player.swept(1))
            player.step(("pass", number))
        self.assertSame(list(player.swept(1)), [0, 25])
        # Of the key 0 the greatest stamp that was told, though its put never ended.
        self.assertTrue(player.swept(1)[0] == (Kept((2, "q"), 2, 3), ()))
        self.assertTrue(player.swept(1)[25] == (Kept((2, "p"), 1, 2), ()))
        told = [(letter.sender, letter.receiver, letter.parts[:2]) for letter in player.letters() if letter.word == "sweep"]
        self.assertSame(told, [(None, 10, (1, 0)), (None, 20, (1, 0)), (None, 30, (1, 0)),
                               (None, 30, (1, 25)), (None, 10, (1, 25)), (None, 20, (1, 25))])
        give(player, "sweep", (30, 10))
        self.assertSame([stamps(player, 0, 10, 20, 30), stamps(player, 25, 10, 30)],
                        [[(2, "q")] * 3, [(2, "p"), (2, "p")]])
        numbers = on_way(player, "swept")
        self.assertTrue(player.letter(numbers[0]) .parts in ((1, 0), (1, 25)))
        for number in numbers[:-1]:
            player.step(("pass", number))
            self.assertIs(player.is_settled, False)
        player.step(("pass", numbers[-1]))
        self.assertSame([player.is_settled, player.swept(1)[0][1], player.swept(1)[25][1]], [True, (10, 30), (10, 30)])
        # Behind the settling answers are noted all the same.
        give(player, "sweep")
        give(player, "swept")
        self.assertSame(player.swept(1)[0][1], (10, 20, 30))

    def test_keys_whose_copies_are_the_same_are_not_swept(self):
        player = plain_player(4, most=2, lots=Lots(2, 2, 2, 0))
        for key in (0, 15, 25, 35):
            ask(player, "put", "p", key, key)
        # The copies of 0 and of all behind 30 change; those of 15 and 25 do not.
        player.step(("begin", ("go", 0)))
        settle(player, sweep=())
        self.assertSame(list(player.swept(1)), [0, 25, 35])
        self.assertSame([player.copies_of(15, 0), player.copies_of(15, 1)], [(20, 30), (20, 30)])
        # Copies are compared as sets: turned about they are the same.
        player = plain_player(2, most=2, lots=Lots(2, 2, 2, 0))
        ask(player, "put", "p", 5, 1)
        player.step(("begin", ("turn", 0, "b")))
        settle(player)
        self.assertSame([player.swept(1), player.is_settled], [{}, True])

    def test_hosts_that_are_no_copies_are_not_heard(self):
        player = Player(Store(Ring((10, "a"), (20, "a")), Book({"": 0}, most=1), Lots(1, 1, 1, 0), ["early"]))
        ask(player, "put", "p", 0, 1)
        player.step(("begin", ("come", 5, "a")))
        settle(player, sweep=())
        self.assertSame([list(player.swept(1)), player.copies_of(0, 1)], [[0], (5,)])
        # In the epoch 1 the host at 10 keeps something for the key 0, and is no copy of it.
        player.step(("begin", ("go", 5)))
        settle(player, sweep=())
        self.assertSame([player.fenced(2), player.swept(2), player.copies_of(0, 2)], [(5, 10, 20), {}, (10,)])

    def test_too_few_copies_never_settle(self):
        player = plain_player(3, lots=Lots(2, 2, 3, 0))
        ask(player, "put", "p", 0, 1)
        player.step(("begin", ("go", 0)))
        for _ in range(3):
            settle(player)
            player.step(("settle",))
        self.assertSame([player.is_settled, player.swept(1)[0][1], on_way(player)], [False, (10, 20), []])

    def test_settle(self):
        player = plain_player(4, lots=Lots(2, 2, 2, 1))
        player.step(("settle",))
        self.assertSame(on_way(player), [])
        ask(player, "put", "p", 0, 1)
        ask(player, "put", "p", 25, 1)
        player.step(("begin", ("go", 0)))
        settle(player, fence=(20,))
        for number in on_way(player):
            player.step(("lose", number))
        player.step(("settle",))
        self.assertSame([letter[1:] for letter in letters(player)], [(None, place, "fence", (0,)) for place in (0, 10, 30)])
        settle(player, fence=(30, 10), sweep=(10,))
        for number in on_way(player):
            player.step(("lose", number))
        player.step(("settle",))
        self.assertSame([(letter[2:4], letter[4][:2]) for letter in letters(player)], [
            ((0, "fence"), (0,)), ((20, "sweep"), (1, 0)), ((30, "sweep"), (1, 0)),
            ((30, "sweep"), (1, 25)), ((20, "sweep"), (1, 25))])
        settle(player)
        self.assertSame([player.is_settled, player.fenced(1)], [True, (0, 10, 20, 30)])
        player.step(("settle",))
        self.assertSame(on_way(player), [])

    def test_a_settled_key_is_sent_to_all_that_have_not_answered(self):
        player = plain_player(4, lots=Lots(2, 2, 2, 0))
        ask(player, "put", "p", 0, 1)
        ask(player, "put", "p", 25, 1)
        player.step(("begin", ("go", 0)))
        settle(player, sweep=())
        player.run(*[("pass", number) for number in on_way(player, "sweep")[:2]])
        give(player, "swept")
        for number in on_way(player):
            player.step(("lose", number))
        # The key 0 has settled, and its third copy has not answered.
        player.step(("settle",))
        self.assertSame([(letter[2], letter[4][:2]) for letter in letters(player)],
                        [(30, (1, 0)), (30, (1, 25)), (10, (1, 25)), (20, (1, 25))])

    def test_the_keeper_chooses_once_and_for_all(self):
        player = plain_player(4, lots=Lots(2, 2, 2, 1))
        ask(player, "put", "p", 0, 1, keep=(0, 10))
        ask(player, "put", "q", 0, 2, keep=(20,))
        player.step(("begin", ("go", 0)))
        settle(player, fence=(0, 10, 30), sweep=())
        self.assertSame([player.swept(1)[0][0].stamp, player.fenced(1)], [(1, "p"), (0, 10, 30)])
        # A host that is noted later, and tells more, changes nothing of it; no sweep is sent anew.
        sent = on_way(player, "sweep")
        settle(player, fence=(20,), sweep=())
        self.assertSame([player.swept(1)[0][0].stamp, player.fenced(1)], [(1, "p"), (0, 10, 20, 30)])
        self.assertSame(on_way(player, "sweep"), sent)

    def test_a_copy_answers_a_sweep_once(self):
        player = plain_player(4, lots=Lots(2, 2, 2, 0))
        ask(player, "put", "p", 0, 1)
        player.step(("begin", ("go", 0)))
        settle(player, sweep=())
        player.run(("twin", on_way(player, "sweep")[0]), ("pass", on_way(player, "sweep")[0]))
        give(player, "swept")
        self.assertSame([player.swept(1)[0][1], player.is_settled], [(10,), False])

    def test_settle_sends_nothing_for_what_has_settled(self):
        player = plain_player(4, lots=Lots(2, 2, 2, 1), cares=("early",))
        ask(player, "put", "p", 0, 1)
        player.step(("begin", ("go", 0)))
        settle(player, fence=(0, 10, 30), sweep=(10, 30))
        self.assertSame([player.is_settled, player.fenced(1), player.swept(1)[0][1]], [True, (0, 10, 30), (10, 30)])
        player.step(("begin", ("go", 10)))
        for number in on_way(player):
            player.step(("lose", number))
        # One fence of the elder begin, and one sweep, have no answer; but it has settled.
        player.step(("settle",))
        self.assertSame([letter[2:] for letter in letters(player)], [(place, "fence", (1,)) for place in (10, 20, 30)])

    def test_a_sweep_comes_whatever_is_closed(self):
        player = plain_player(5, lots=Lots(2, 2, 2, 1))
        ask(player, "put", "p", 0, 1, keep=(0, 10))
        player.step(("begin", ("go", 0)))
        give(player, "fence")
        give(player, "fenced")
        late = on_way(player, "sweep", receiver=30)
        for place in (10, 20):
            give(player, "sweep", (place,))
        give(player, "swept")
        player.step(("begin", ("go", 20)))
        give(player, "fence")
        self.assertSame(player.host(30).closed, 1)
        player.step(("pass", late[0]))
        self.assertSame([stamps(player, 0, 30), player.letter(on_way(player, "swept")[0]).parts], [[(1, "p")], (1, 0)])

    def test_closed_numbers_only_grow(self):
        player = plain_player(4, lots=Lots(2, 2, 2, 1))
        player.step(("begin", ("go", 0)))
        late = on_way(player, "fence", receiver=30)[0]
        settle(player, fence=(0, 10, 20))
        player.step(("begin", ("go", 10)))
        give(player, "fence", (10, 20))
        newer = on_way(player, "fence", receiver=30)[-1]
        player.step(("pass", newer))
        player.step(("pass", late))
        self.assertSame([player.host(30).closed, player.host(0).closed], [1, 0])
        self.assertSame(sorted(player.letter(number).parts for number in on_way(player, "fenced", sender=30)), [(0, ()), (1, ())])


class Cares(Case):
    """Each care: what the store does with it, and with it left out."""

    def test_back(self):
        for cares in ((), ("back",)):
            player = plain_player(3, lots=Lots(2, 2), cares=cares)
            ask(player, "put", "p", 0, 7)
            player.step(("get", "q", 0))
            give(player, "hear")
            give(player, "heard")
            self.assertIs(player.answer(1) is None, not cares)
            self.assertSame(len(on_way(player, "keep")), 0 if cares else 3)
            self.assertSame(player.history(0)[1].told, 0 if cares else None)
            # A put has both rounds in any case.
            player.step(("put", "r", 0, 7))
            give(player, "hear")
            give(player, "heard")
            self.assertSame([player.answer(2), player.asking("r").stage], [None, 2])

    def test_back_left_out_breaks(self):
        player = plain_player(3, lots=Lots(2, 3), cares=("back",))
        ask(player, "put", "p", 0, 7, keep=(0,))
        ask(player, "get", "q", 0, read=(0, 10))
        ask(player, "get", "q", 0, read=(10, 20))
        told = player.history(0)
        self.assertSame([[ask.told for ask in told], fits_an_order(told)], [[None, 0, None], False])

    def test_stamp(self):
        for cares in ((), ("stamp",)):
            for word in ("again", "refused"):
                player = plain_player(3, lots=Lots(2, 2), cares=cares)
                ask(player, "put", "p", 0, 7, keep=())
                if word == "again":
                    player.step(("again", "p"))
                else:
                    player.step(("begin", ("come", 5, "a")))
                    give(player, "fence", (0,))
                    give(player, "keep", (0,))
                    give(player, "refused")
                told = player.asking("p")
                self.assertSame([told.attempt, told.stage, told.kept is None], [2, 1, True] if cares else [2, 2, False])
                give(player, "hear")
                give(player, "heard")
                # The new stamp has a number above the last one of its client.
                self.assertSame(player.asking("p").kept.stamp, (2, "p") if cares else (1, "p"))
                give(player, "keep")
                give(player, "kept")
                self.assertSame(player.answer(0).stamp, (2, "p") if cares else (1, "p"))

    def test_number(self):
        for cares in ((), ("number",)):
            player = plain_player(3, lots=Lots(1, 1), cares=cares)
            ask(player, "put", "p", 0, 1, keep=(0,))
            ask(player, "put", "p", 0, 2, read=(10,), keep=(10,))
            ask(player, "put", "p", 7, 3, read=(20,), keep=(20,))
            self.assertSame([stamps(player, 0, 10), stamps(player, 7, 20)],
                            [[(1, "p")], [(1, "p")]] if cares else [[(2, "p")], [(3, "p")]])

    def test_names(self):
        for cares in ((), ("names",)):
            player = plain_player(3, lots=Lots(1, 1), cares=cares)
            ask(player, "put", "q", 0, 1, keep=(0,))
            ask(player, "put", "p", 0, 2, read=(10,), keep=(10,))
            ask(player, "put", "r", 0, 3, read=(20,), keep=(0, 20))
            # A host keeps its own of equal numbers.
            self.assertSame(stamps(player, 0, 0, 10, 20), [(1, "q") if cares else (1, "r"), (1, "p"), (1, "r")])

    def test_names_of_equal_ones_the_first_noted_counts(self):
        for cares, wanted in (((), 1), (("names",), 0)):
            player = plain_player(4, lots=Lots(2, 1, 3, 0), cares=cares)
            ask(player, "put", "q", 0, 1, read=(10, 20), keep=(20,))
            ask(player, "put", "r", 0, 2, read=(0, 10), keep=(10,))
            player.step(("get", "s", 0))
            give(player, "hear", (10, 20))
            for number in on_way(player, "heard")[::-1]:
                player.step(("pass", number))
            self.assertSame(player.asking("s").kept.put, wanted)
            player.step(("begin", ("go", 0)))
            give(player, "fence")
            for number in on_way(player, "fenced")[::-1]:
                player.step(("pass", number))
            self.assertSame(player.swept(1)[0][0].put, wanted)

    def test_early(self):
        go = [("begin", ("go", place)) for place in (0, 10, 20)]
        player = plain_player(5, lots=Lots(2, 2))
        self.assertSame([player.attempt(step) for step in go], [True, False, False])
        player = plain_player(5, lots=Lots(2, 2, 2, 0), cares=("early",))
        ask(player, "put", "p", 0, 7, keep=(0, 10))
        player.run(*go)
        self.assertSame([player.epoch, player.is_settled, len(on_way(player, "fence"))], [3, False, 12])
        # Each pair settles for itself, by its own fences and sweeps.
        for number in on_way(player, "fence"):
            if player.letter(number).parts == (2,):
                player.step(("pass", number))
        give(player, "fenced")
        self.assertSame([player.is_settled, [player.fenced(epoch) for epoch in range(4)]], [True, [(), (), (), (20, 30, 40)]])
        player.step(("settle",))
        self.assertSame([letter.parts for letter in player.letters() if letter.word == "fence"][9:], [(0,)] * 5 + [(1,)] * 4)
        settle(player)
        self.assertSame([list(player.swept(epoch)) for epoch in (1, 2, 3)], [[0], [0], []])
        # Newer hosts have closed more than the elder epoch, so what began there is refused with the newest one.
        player.step(("get", "p", 0))
        give(player, "hear", (20,))
        give(player, "refused")
        self.assertSame(player.known("p"), 3)

    def test_older(self):
        for cares in ((), ("older",)):
            player = plain_player(3, lots=Lots(1, 1, 1, 0), cares=cares)
            ask(player, "put", "p", 0, 1, keep=(0, 10))
            player.step(("get", "q", 0))
            give(player, "hear", (20,))
            give(player, "heard")
            give(player, "keep", (0,))
            self.assertSame([stamps(player, 0, 0), 0 in player.host(0)], [[(0, "")], False] if cares else [[(1, "p")], True])
            ask(player, "put", "p", 0, 2, keep=(20,))
            ask(player, "get", "r", 0, read=(10,), keep=(20,))
            self.assertSame(stamps(player, 0, 20), [(1, "p")] if cares else [(2, "p")])

    def test_older_with_sweeps(self):
        for cares in ((), ("older",)):
            player = plain_player(4, lots=Lots(1, 1, 1, 0), cares=cares)
            ask(player, "put", "p", 0, 1, keep=(0,))
            player.step(("begin", ("go", 0)))
            give(player, "fence")
            give(player, "fenced")
            player.step(("tell", "q"))
            ask(player, "put", "q", 0, 5, read=(10,), keep=(10,))
            ask(player, "put", "q", 0, 6, read=(10,), keep=(10,))
            give(player, "sweep", (10,))
            self.assertSame(stamps(player, 0, 10), [(1, "p")] if cares else [(2, "q")])


if __name__ == "__main__":
    unittest.main()
