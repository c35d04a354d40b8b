"""Chains: joining, being called away, staying, changing places, another pace, and what is refused [8], [9]."""

import unittest

from cases import WAY, RefusalCase, three
from model import standing
from pailchain.chain import Chain
from pailchain.errors import (
    BadName, BadPace, BadWay, Called, Full, NoHand, NoNext, NotCalled, Taken,
)

NAMES = ["a", "b", "c", "d", "e", "f", "g", "h"]
BAD_NAMES = [
    "", "abcdefghi", "a" * 20, "a" * 4000, "A", "aB", "Abc", "a1", "1", "a b", " ", " a", "a ", "a-b", "a_b", "~",
    "a\n", "\n", "`", "{", "z{", "`a",
]
BAD_PACES = [0, -1, -12, 13, 14, 10 ** 9, -(10 ** 9), 10 ** 30]


class BeginTest(unittest.TestCase):
    def test_a_new_chain(self):
        chain = Chain(WAY)
        self.assertEqual(chain.hour(), (0, 1))
        self.assertEqual(chain.hands(), [])
        self.assertEqual(chain.called(), [])
        self.assertEqual(chain.emptied(), [])
        self.assertEqual(chain.pails(), 0)
        self.assertIsNone(chain.next_out())

    def test_bad_ways(self):
        for way in ([], [(1, 1)] * 7, [(0, 1)], [(1, 0)], [(10, 1)], [(1, 10)], [(2, 3), (-1, 1)], [(1, True)]):
            self.assertRaises(BadWay, Chain, way)

    def test_the_handed_way_is_neither_changed_nor_held(self):
        way = [(3, 1), (2, 5)]
        chain = Chain(way)
        self.assertEqual(way, [(3, 1), (2, 5)])
        way[1] = (9, 9)
        way.append((1, 1))
        chain.enter("a", 1)
        self.assertEqual(chain.next_out(), (13, 1))
        twin = chain.twin()
        way.clear()
        self.assertEqual(chain.twin().next_out(), (13, 1))
        self.assertEqual(twin.outs(1), [((13, 1), "out", 0, "a")])
        self.assertEqual(chain.outs(1), [((13, 1), "out", 0, "a")])


class EnterTest(RefusalCase):
    def test_each_joins_as_the_first_one_at_the_well_with_a_new_pail(self):
        chain = Chain(WAY)
        for number, name in enumerate(NAMES):
            self.assertEqual(chain.enter(name, number + 1), number)
            self.assertEqual(chain.hands(), NAMES[number::-1])
            self.assertEqual(chain.pails(), number + 1)
            self.assertEqual(chain.pail(name), number)
            self.assertEqual(chain.place(name), (0, 1))
            self.assertEqual(chain.pace(name), number + 1)
        self.assertEqual([chain.pail(name) for name in chain.hands()], [7, 6, 5, 4, 3, 2, 1, 0])
        self.assertEqual(chain.called(), [])
        self.assertEqual(chain.hour(), (0, 1))

    def test_joining_on_the_way(self):
        chain = three()
        chain.go((2, 1))
        self.assertEqual(chain.enter("d", 12), 3)
        self.assertEqual(chain.hands(), ["d", "a", "b", "c"])
        self.assertEqual([chain.place(name) for name in chain.hands()], [(0, 1), (2, 1), (4, 1), (6, 1)])
        self.assertEqual([chain.pail(name) for name in chain.hands()], [3, 2, 1, 0])

    def test_names_of_one_to_eight_letters(self):
        for name in ("a", "z", "az", "abcdefgh", "zzzzzzzz", "out", "left", "none"):
            chain = Chain(WAY)
            self.assertEqual(chain.enter(name, 1), 0)
            self.assertEqual(chain.hands(), [name])

    def test_bad_names(self):
        for chain in (Chain(WAY), three()):
            for name in BAD_NAMES:
                self.assertRefused(BadName, chain, "enter", name, 1)

    def test_all_paces(self):
        for pace in range(1, 13):
            chain = Chain(WAY)
            chain.enter("a", pace)
            self.assertEqual(chain.pace("a"), pace)

    def test_bad_paces(self):
        for chain in (Chain(WAY), three()):
            for pace in BAD_PACES + [True, False]:
                self.assertRefused(BadPace, chain, "enter", "new", pace)

    def test_taken(self):
        chain = three()
        for name in "abc":
            self.assertRefused(Taken, chain, "enter", name, 5)

    def test_a_name_is_free_again_behind_its_leaving(self):
        chain = three()
        chain.call("b")
        self.assertRefused(Taken, chain, "enter", "b", 2)
        chain.outs(1)
        self.assertEqual(chain.enter("b", 7), 3)
        self.assertEqual(chain.hands(), ["b", "a", "c"])
        self.assertEqual(chain.called(), [])
        self.assertEqual(chain.pace("b"), 7)

    def test_full(self):
        chain = Chain(WAY)
        for name in NAMES:
            chain.enter(name, 12)
        self.assertRefused(Full, chain, "enter", "i", 1)
        chain.call("h")
        self.assertRefused(Full, chain, "enter", "i", 1)
        chain.outs(1)
        self.assertEqual(len(chain.hands()), 7)
        chain.enter("i", 1)
        self.assertRefused(Full, chain, "enter", "j", 1)

    def test_the_refusal_that_is_told_first(self):
        chain = Chain(WAY)
        for name in NAMES:
            self.assertRefused(BadName, chain, "enter", "", 0)
            chain.enter(name, 3)
            self.assertRefused(Taken, chain, "enter", name, 0)
        self.assertRefused(BadName, chain, "enter", "A", 13)
        self.assertRefused(BadName, chain, "enter", "A", 1)
        self.assertRefused(Taken, chain, "enter", "a", 13)
        self.assertRefused(Taken, chain, "enter", "a", 1)
        self.assertRefused(BadPace, chain, "enter", "i", 13)
        self.assertRefused(Full, chain, "enter", "i", 12)


class CallTest(RefusalCase):
    def test_called_away_and_told_to_stay(self):
        chain = three()
        self.assertIsNone(chain.call("c"))
        self.assertEqual(chain.called(), ["c"])
        self.assertIsNone(chain.call("a"))
        self.assertEqual(chain.called(), ["a", "c"])
        self.assertIsNone(chain.call("b"))
        self.assertEqual(chain.called(), ["a", "b", "c"])
        self.assertIsNone(chain.stay("b"))
        self.assertEqual(chain.called(), ["a", "c"])
        self.assertIsNone(chain.stay("c"))
        self.assertIsNone(chain.stay("a"))
        self.assertEqual(chain.called(), [])
        self.assertEqual(chain.hands(), ["a", "b", "c"])

    def test_refused(self):
        chain = three()
        for deed in ("call", "stay"):
            for name in ("d", "", "A", "aa", "abcdefghi"):
                self.assertRefused(NoHand, chain, deed, name)
        self.assertRefused(NotCalled, chain, "stay", "a")
        chain.call("a")
        self.assertRefused(Called, chain, "call", "a")
        self.assertRefused(NotCalled, chain, "stay", "b")
        chain.stay("a")
        self.assertRefused(NotCalled, chain, "stay", "a")
        chain.call("a")
        self.assertRefused(Called, chain, "call", "a")

    def test_whoever_left_is_no_hand_of_the_chain(self):
        chain = three()
        chain.call("b")
        chain.outs(1)
        for deed in ("call", "stay", "swap", "pace", "place", "pail"):
            self.assertRefused(NoHand, chain, deed, "b")
        self.assertRefused(NoHand, chain, "set_pace", "b", 1)

    def test_who_stays_does_not_leave(self):
        chain = three()
        chain.call("b")
        chain.stay("b")
        self.assertEqual(chain.outs(1), [((4, 1), "out", 0, "c")])
        self.assertEqual(chain.hands(), ["a", "b", "c"])


class SwapTest(RefusalCase):
    def test_each_takes_the_other_ones_pail_where_it_is(self):
        chain = three()
        chain.go((2, 1))
        self.assertIsNone(chain.swap("a"))
        self.assertEqual(chain.hands(), ["b", "a", "c"])
        self.assertEqual([chain.pail(name) for name in chain.hands()], [2, 1, 0])
        self.assertEqual([chain.place(name) for name in chain.hands()], [(2, 1), (4, 1), (6, 1)])
        self.assertEqual([chain.pace(name) for name in "abc"], [1, 2, 3])
        self.assertIsNone(chain.swap("a"))
        self.assertEqual(chain.hands(), ["b", "c", "a"])
        self.assertEqual([chain.pail(name) for name in chain.hands()], [2, 1, 0])
        self.assertEqual([chain.place(name) for name in chain.hands()], [(2, 1), (4, 1), (6, 1)])
        # Now a, the slowest one, is the last one: b and c come up behind it.
        self.assertEqual(chain.next_out(), (6, 1))
        self.assertEqual(chain.go((1, 1)), [])
        self.assertEqual([chain.place(name) for name in chain.hands()], [(4, 1), (7, 1), (7, 1)])

    def test_that_it_is_called_away_goes_with_the_hand(self):
        chain = three()
        chain.call("b")
        chain.swap("b")
        self.assertEqual(chain.hands(), ["a", "c", "b"])
        self.assertEqual(chain.called(), ["b"])
        # c walked behind b, so its pail is at the fire then, too.
        self.assertEqual(chain.outs(1), [
            ((6, 1), "out", 0, "b"), ((6, 1), "left", "b"), ((6, 1), "out", 1, "c"),
        ])
        chain = three()
        chain.call("c")
        chain.swap("b")
        self.assertEqual(chain.hands(), ["a", "c", "b"])
        self.assertEqual(chain.called(), ["c"])

    def test_both_called_away(self):
        chain = three()
        chain.call("b")
        chain.call("c")
        self.assertEqual(chain.called(), ["b", "c"])
        chain.swap("b")
        self.assertEqual(chain.called(), ["c", "b"])

    def test_refused(self):
        chain = three()
        self.assertRefused(NoNext, chain, "swap", "c")
        self.assertRefused(NoHand, chain, "swap", "d")
        alone = Chain(WAY)
        self.assertRefused(NoHand, alone, "swap", "a")
        alone.enter("a", 1)
        self.assertRefused(NoNext, alone, "swap", "a")


class PaceTest(RefusalCase):
    def test_another_pace(self):
        chain = three()
        chain.go((1, 1))
        self.assertIsNone(chain.set_pace("c", 12))
        self.assertEqual([chain.pace(name) for name in "abc"], [1, 2, 12])
        self.assertEqual(chain.place("c"), (3, 1))
        self.assertEqual(chain.next_out(), (3, 4))
        chain.set_pace("a", 4)
        self.assertEqual(chain.go((1, 2)), [])
        self.assertEqual([chain.place(name) for name in "abc"], [(3, 1), (3, 1), (9, 1)])

    def test_the_same_one_again(self):
        chain = three()
        before = standing(chain)
        self.assertIsNone(chain.set_pace("b", 2))
        self.assertEqual(standing(chain), before)

    def test_refused(self):
        chain = three()
        for pace in BAD_PACES + [True, False]:
            for name in "abc":
                self.assertRefused(BadPace, chain, "set_pace", name, pace)
            self.assertRefused(NoHand, chain, "set_pace", "d", pace)
        self.assertRefused(NoHand, chain, "set_pace", "d", 3)


class AskedTest(RefusalCase):
    def test_no_hand(self):
        for chain in (Chain(WAY), three()):
            for asked in ("pace", "place", "pail", "ledger"):
                for name in ("d", "", "aa", "A"):
                    self.assertRefused(NoHand, chain, asked, name)


if __name__ == "__main__":
    unittest.main()
