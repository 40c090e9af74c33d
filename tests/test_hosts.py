"""Hosts: stayopen/hosts.py."""

import unittest

from stayopen.errors import BadNumber
from stayopen.hosts import Host
from stayopen.stamps import Kept, nothing
from tests.helpers import STRANGE, Case

LAST = 999999999
ANN, BOB, TWO = Kept((1, "ann"), 0, 7), Kept((1, "bob"), 1, 8), Kept((2, "ann"), 2, 9)
NO_PLACES = (*STRANGE, LAST + 1, "5", (5,))


def host_keeping(*rows, place=10):
    """A host that keeps the told Kepts, pairs (key, kept)."""
    host = Host(place)
    for key, kept in rows:
        host, _ = host.answered("keep", (0, 0, 0, key, kept))
    return host


class Hosts(Case):
    def test_new_hosts(self):
        for place in (0, 10, LAST):
            host = Host(place)
            self.assertSame([host.place, host.closed, list(host), len(host), bool(host)], [place, -1, [], 0, True])
            self.assertTrue(host.kept(0) == nothing())
        for value in NO_PLACES:
            self.assertRaisesJust(BadNumber(value), Host, value)
            self.assertRaisesJust(BadNumber(value), Host(0).kept, value)
            self.assertIs(value in host_keeping((0, ANN), (1, BOB)), False)
        self.assertIs(True in host_keeping((1, ANN)), False)
        self.assertSame(Host(place=3).kept(key=LAST).stamp, (0, ""))

    def test_keys(self):
        host = host_keeping((30, ANN), (LAST, BOB), (0, TWO), (5, ANN), (30, TWO))
        self.assertSame([list(host), len(host), bool(host)], [[0, 5, 30, LAST], 4, True])
        for key in (0, 5, 30, LAST):
            self.assertIs(key in host, True)
        self.assertIs(6 in host, False)
        self.assertIs(host.kept(30), TWO)
        self.assertTrue(host.kept(6) == nothing())

    def test_equality(self):
        host = host_keeping((5, ANN), (6, BOB))
        self.assertIs(host == host_keeping((6, BOB), (5, ANN)), True)
        self.assertIs(host != host_keeping((6, BOB), (5, ANN)), False)
        for other in (host_keeping((5, ANN)), host_keeping((5, ANN), (6, ANN)), host_keeping((5, ANN), (7, BOB)),
                      host_keeping((5, ANN), (6, BOB), place=11), host.answered("fence", (0,))[0], Host(10), *STRANGE):
            self.assertIs(host == other, False)
            self.assertIs(host != other, True)

    def test_hear(self):
        host = host_keeping((5, ANN))
        for key, kept in ((5, ANN), (6, nothing())):
            same, answer = host.answered("hear", (4, 2, 0, key))
            self.assertTrue(same == host)
            self.assertTrue(answer == ("heard", (4, 2, kept)))
            self.assertSame([type(answer), type(answer[1])], [tuple, tuple])

    def test_keep(self):
        host = host_keeping((5, BOB))
        for kept, stays in ((TWO, TWO), (ANN, BOB), (BOB, BOB), (nothing(), BOB), (Kept((1, "bobb"), 8, 0), None),
                            (Kept((1, "bob"), 9, 1), BOB)):
            for cares in ((), ("names",), ["back", "early", "number", "stamp"], ("older",), ["older", "names"]):
                behind, answer = host.answered("keep", (4, 2, 0, 5, kept), cares)
                self.assertSame(answer, ("kept", (4, 2)))
                if "older" in cares:
                    wanted = kept
                elif "names" in cares:
                    # Equal numbers are not greater: the host keeps its own.
                    wanted = TWO if kept is TWO else BOB
                else:
                    wanted = kept if stays is None else stays
                self.assertTrue(behind.kept(5) == wanted)
                self.assertIs(5 in behind, wanted != nothing())
                self.assertTrue(behind == host or wanted != BOB)
        self.assertTrue(host == host_keeping((5, BOB)))

    def test_nothing_is_kept_as_nothing(self):
        for cares in ((), ("older",), ("names",)):
            for word, parts in (("keep", (0, 0, 0, 5, nothing())), ("sweep", (1, 5, nothing()))):
                behind, _ = Host(10).answered(word, parts, cares)
                self.assertTrue(behind == Host(10))
                behind, _ = host_keeping((5, ANN), (6, BOB)).answered(word, parts, cares)
                self.assertSame(list(behind), [6] if "older" in cares else [5, 6])

    def test_fence(self):
        host = host_keeping((9, BOB), (5, ANN))
        shut, answer = host.answered("fence", (2,))
        self.assertTrue(answer == ("fenced", (2, ((5, ANN), (9, BOB)))))
        self.assertSame([shut.closed, host.closed, list(shut)], [2, -1, [5, 9]])
        # An elder fence closes nothing more, and is answered with what is kept then.
        again, answer = shut.answered("sweep", (3, 5, TWO))[0].answered("fence", (0,))
        self.assertSame(again.closed, 2)
        self.assertTrue(answer == ("fenced", (0, ((5, TWO), (9, BOB)))))
        self.assertSame(Host(10).answered("fence", (0,))[1], ("fenced", (0, ())))

    def test_refused(self):
        shut = host_keeping((5, ANN)).answered("fence", (1,))[0]
        for epoch in (0, 1):
            for word, parts in (("hear", (3, 4, epoch, 5)), ("keep", (3, 4, epoch, 5, TWO))):
                for cares in ((), ("older",)):
                    same, answer = shut.answered(word, parts, cares)
                    self.assertSame(answer, ("refused", (3, 4, 2)))
                    self.assertTrue(same == shut)
        self.assertTrue(shut.answered("hear", (3, 4, 2, 5))[1] == ("heard", (3, 4, ANN)))
        self.assertTrue(shut.answered("keep", (3, 4, 2, 5, TWO))[0].kept(5) == TWO)

    def test_sweep(self):
        shut = host_keeping((5, BOB)).answered("fence", (9,))[0]
        for kept, cares, wanted in ((TWO, (), TWO), (ANN, (), BOB), (ANN, ("older",), ANN), (TWO, ("names",), TWO),
                                    (Kept((1, "zoe"), 3, 3), ("names",), BOB), (Kept((1, "zoe"), 3, 3), (), None)):
            behind, answer = shut.answered("sweep", (3, 5, kept), cares)
            self.assertSame(answer, ("swept", (3, 5)))
            self.assertTrue(behind.kept(5) == (kept if wanted is None else wanted))
            self.assertSame(behind.closed, 9)
        self.assertTrue(shut.answered(cares=(), parts=(3, 6, ANN), word="sweep")[0].kept(6) == ANN)

    def test_hosts_never_change(self):
        host = host_keeping((5, ANN))
        for word, parts in (("keep", (0, 0, 0, 5, TWO)), ("sweep", (1, 6, TWO)), ("fence", (4,))):
            host.answered(word, parts, ["older"])
            self.assertTrue(host == host_keeping((5, ANN)))


if __name__ == "__main__":
    unittest.main()
