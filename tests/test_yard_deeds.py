"""Yards: laying, hiring, dismissing, sending, and the deeds of hands in chains [23], [24], [9]."""

import unittest

from cases import YardCase, crew, two_chains, yard_of
from model import standing
from pailchain.chain import Chain
from pailchain.errors import (
    BadName, BadPace, BadWay, Busy, Called, Full, Idle, NoChain, NoHand, NoNext, NotCalled, Taken,
)
from pailchain.yard import Yard
from yard_model import yard_standing

WAY = ((4, 3),)
BAD_WAYS = [
    (), ((1, 1),) * 7, ((0, 1),), ((1, 0),), ((10, 1),), ((1, 10),), ((2, 3), (-1, 1)), ((1, 1), (2, 3), (1, True)),
]
BAD_NAMES = ["", "abcdefghi", "A", "aB", "a1", "a b", " ", "a ", "a-b", "a\n", "`", "{", "a" * 4000]
BAD_PACES = [0, -1, 13, 14, 10 ** 9, -(10 ** 9), True, False]
STRANGERS = ["zed", "", "A", "a" * 4000, "al "]
NO_CHAINS = [-1, 2, 3, 4, 10 ** 9, True, False]
THIRTY = [first + second for first in "abcde" for second in "uvwxyz"]


class BeginTest(YardCase):
    def test_a_new_yard(self):
        yard = Yard()
        self.assertEqual(yard.hour(), (0, 1))
        self.assertEqual(yard.chains(), 0)
        for told in (yard.pool(), yard.book(), yard.deeds()):
            self.assertIs(type(told), list)
            self.assertEqual(told, [])

    def test_asked_of_what_is_not_there(self):
        for yard in (Yard(), two_chains()):
            before = yard_standing(yard)
            for name in STRANGERS:
                self.assertRaises(NoHand, yard.where, name)
                self.assertRaises(NoHand, yard.pace, name)
            for number in NO_CHAINS:
                self.assertRaises(NoChain, yard.chain, number)
            self.assertEqual(yard_standing(yard), before)
        self.assertRaises(NoChain, Yard().chain, 0)


class LayTest(YardCase):
    def test_chains_are_numbered_from_nought(self):
        yard = Yard()
        for number, steps in enumerate((2, 3, 5, 7)):
            self.assertEqual(yard.do(("lay", ((steps, 2),))), number)
            self.assertEqual(yard.chains(), number + 1)
        for number, steps in enumerate((2, 3, 5, 7)):
            yard.do(("hire", "abcd"[number], 1))
            yard.do(("send", "abcd"[number], number))
            self.assertEqual(yard.chain(number).next_out(), (2 * steps, 1))

    def test_it_stands_as_a_new_chain(self):
        yard = yard_of(("lay", ((3, 1), (2, 5))))
        found = yard.chain(0)
        self.assertIs(type(found), Chain)
        self.assertEqual(standing(found), standing(Chain([(3, 1), (2, 5)])))

    def test_its_hour_is_the_yards(self):
        yard = yard_of(("go", 7, 2), ("lay", WAY), ("go", 1, 3), ("lay", WAY), ("hire", "al", 3), ("send", "al", 1))
        self.assertEqual([yard.chain(number).hour() for number in (0, 1)], [(23, 6), (23, 6)])
        self.assertEqual(yard.do(("outs", 1, 1)), [((47, 6), 1, "out", 0, "al")])
        self.assertEqual(yard.do(("lay", WAY)), 2)
        self.assertEqual([yard.chain(number).hour() for number in (0, 1, 2)], [(47, 6)] * 3)

    def test_longest_and_shortest_ways(self):
        yard = yard_of(("lay", ((1, 1),)), ("lay", ((9, 9),) * 6), ("hire", "al", 1), ("send", "al", 1))
        self.assertEqual(yard.chain(1).next_out(), (486, 1))

    def test_bad_ways(self):
        for yard in (Yard(), yard_of(*[("lay", WAY)] * 4)):
            for way in BAD_WAYS:
                self.assertYardRefused(BadWay, yard, "lay", way)

    def test_four_and_one_more(self):
        yard = yard_of(*[("lay", WAY)] * 3)
        self.assertEqual(yard.do(("lay", WAY)), 3)
        self.assertYardRefused(Full, yard, "lay", WAY)
        yard.undo()
        self.assertEqual(yard.do(("lay", WAY)), 3)
        self.assertYardRefused(Full, yard, "lay", ((9, 9),) * 6)


class HireTest(YardCase):
    def test_hired_to_the_pool_in_their_order(self):
        yard = Yard()
        for at, name in enumerate(["m", "z", "a", "abcdefgh", "none"]):
            self.assertIsNone(yard.do(("hire", name, at + 8)))
            self.assertIsNone(yard.where(name))
            self.assertEqual(yard.pace(name), at + 8)
        self.assertEqual(yard.pool(), ["m", "z", "a", "abcdefgh", "none"])

    def test_bad_names(self):
        for yard in (Yard(), two_chains()):
            for name in BAD_NAMES:
                for pace in (1, 0):
                    self.assertYardRefused(BadName, yard, "hire", name, pace)

    def test_taken(self):
        yard = two_chains()
        for name in ("al", "cy", "di"):
            for pace in (1, 0, 13):
                self.assertYardRefused(Taken, yard, "hire", name, pace)

    def test_bad_paces(self):
        for yard in (Yard(), two_chains()):
            for pace in BAD_PACES:
                self.assertYardRefused(BadPace, yard, "hire", "new", pace)
            for pace in (1, 12):
                self.assertIsNone(yard.twin().do(("hire", "new", pace)))

    def test_thirty_and_one_more(self):
        yard = yard_of(*crew(5, THIRTY))
        self.assertEqual(yard.pool(), THIRTY)
        self.assertYardRefused(Full, yard, "hire", "new", 1)
        # The refusals that are told ahead of Full.
        self.assertYardRefused(BadName, yard, "hire", "", 0)
        self.assertYardRefused(Taken, yard, "hire", "au", 0)
        self.assertYardRefused(BadPace, yard, "hire", "new", 0)
        yard.do(("dismiss", "bu"))
        self.assertIsNone(yard.do(("hire", "new", 1)))
        self.assertYardRefused(Full, yard, "hire", "newer", 1)

    def test_hands_in_chains_count_among_the_thirty(self):
        yard = yard_of(*crew(5, THIRTY[:29]), ("lay", WAY), ("lay", WAY))
        for at, name in enumerate(THIRTY[:16]):
            yard.do(("send", name, at % 2))
        self.assertEqual(len(yard.pool()), 13)
        yard.do(("hire", THIRTY[29], 5))
        self.assertYardRefused(Full, yard, "hire", "new", 1)

    def test_thirty_hands_in_four_chains(self):
        yard = yard_of(*crew(5, THIRTY), *[("lay", WAY)] * 4)
        for at, name in enumerate(THIRTY):
            self.assertEqual(yard.do(("send", name, at % 4)), at // 4)
        self.assertEqual(yard.pool(), [])
        self.assertYardRefused(Full, yard, "hire", "new", 1)
        self.assertEqual([len(yard.chain(number).hands()) for number in range(4)], [8, 8, 7, 7])


class DismissTest(YardCase):
    def test_dismissed_from_the_pool(self):
        yard = yard_of(*crew(3, ["al", "bo", "cy"]))
        self.assertIsNone(yard.do(("dismiss", "bo")))
        self.assertEqual(yard.pool(), ["al", "cy"])
        self.assertRaises(NoHand, yard.where, "bo")
        self.assertRaises(NoHand, yard.pace, "bo")

    def test_hired_again_it_is_the_last_one_with_its_new_pace(self):
        yard = yard_of(*crew(3, ["al", "bo", "cy"]), ("dismiss", "al"), ("hire", "al", 7))
        self.assertEqual(yard.pool(), ["bo", "cy", "al"])
        self.assertEqual(yard.pace("al"), 7)

    def test_refused(self):
        yard = two_chains()
        for name in STRANGERS:
            self.assertYardRefused(NoHand, yard, "dismiss", name)
        for name in ("al", "bo", "cy"):
            self.assertYardRefused(Busy, yard, "dismiss", name)
        yard.do(("call", "cy"))
        self.assertYardRefused(Busy, yard, "dismiss", "cy")
        yard.do(("dismiss", "di"))
        self.assertYardRefused(NoHand, yard, "dismiss", "di")
        yard.do(("outs", 1, 1))
        self.assertIsNone(yard.do(("dismiss", "cy")))


class SendTest(YardCase):
    def test_it_joins_the_chain(self):
        yard = two_chains()
        yard.do(("go", 1, 1))
        self.assertEqual(yard.do(("send", "ed", 0)), 2)
        self.assertEqual(yard.do(("send", "di", 1)), 1)
        self.assertEqual(yard.pool(), [])
        self.assertEqual([yard.where(name) for name in ("al", "bo", "cy", "di", "ed")], [0, 0, 1, 1, 0])
        chain = yard.chain(0)
        self.assertEqual(chain.hands(), ["ed", "al", "bo"])
        self.assertEqual([chain.place(name) for name in chain.hands()], [(0, 1), (1, 1), (3, 1)])
        self.assertEqual([chain.pace(name) for name in chain.hands()], [5, 1, 3])
        self.assertEqual(yard.chain(1).hands(), ["di", "cy"])

    def test_refused(self):
        yard = two_chains()
        for number in [0] + NO_CHAINS:
            for name in STRANGERS:
                self.assertYardRefused(NoHand, yard, "send", name, number)
            for name in ("al", "cy"):
                self.assertYardRefused(Busy, yard, "send", name, number)
        for number in NO_CHAINS:
            self.assertYardRefused(NoChain, yard, "send", "di", number)
        self.assertYardRefused(NoChain, yard_of(("hire", "al", 1)), "send", "al", 0)

    def test_eight_and_one_more(self):
        yard = yard_of(("lay", WAY), ("lay", WAY), *crew(3, "abcdefghij"))
        for number, name in enumerate("abcdefgh"):
            self.assertEqual(yard.do(("send", name, 0)), number)
        self.assertYardRefused(Full, yard, "send", "i", 0)
        # The refusals that are told ahead of Full.
        self.assertYardRefused(NoHand, yard, "send", "z", 0)
        self.assertYardRefused(Busy, yard, "send", "a", 0)
        self.assertYardRefused(NoChain, yard, "send", "i", 2)
        self.assertEqual(yard.do(("send", "i", 1)), 0)
        yard.do(("call", "d"))
        self.assertYardRefused(Full, yard, "send", "j", 0)
        yard.do(("outs", 0, 1))
        # All eight walk side by side: behind d all the others' pails are emptied, and each takes a new one.
        self.assertEqual(yard.chain(0).pails(), 15)
        self.assertEqual(yard.do(("send", "j", 0)), 15)
        self.assertEqual(yard.chain(0).hands(), ["j", "h", "g", "f", "e", "c", "b", "a"])


class LeavingTest(YardCase):
    def test_whoever_leaves_is_in_the_pool_with_its_pace(self):
        yard = two_chains()
        yard.do(("call", "al"))
        yard.do(("pace", "al", 2))
        self.assertEqual(yard.where("al"), 0)
        self.assertEqual(yard.pool(), ["di", "ed"])
        yard.do(("go", 239, 60))
        self.assertEqual(yard.where("al"), 0)
        self.assertEqual(yard.do(("go", 1, 60)), [((4, 1), 0, "out", 0, "bo"), ((4, 1), 0, "left", "al")])
        self.assertIsNone(yard.where("al"))
        self.assertEqual(yard.pace("al"), 2)
        self.assertEqual(yard.chain(0).hands(), ["bo"])

    def test_the_pool_is_in_the_order_of_hiring_not_of_leaving(self):
        yard = two_chains()
        for name in ("cy", "al", "bo"):
            yard.do(("call", name))
        yard.do(("go", 3, 1))
        self.assertEqual(yard.pool(), ["cy", "di", "ed"])
        yard.do(("go", 60, 1))
        self.assertEqual(yard.pool(), ["al", "bo", "cy", "di", "ed"])

    def test_it_is_sent_again_with_its_pace_and_goes_on_with_its_ledger(self):
        yard = two_chains()
        yard.do(("call", "cy"))
        yard.do(("go", 3, 1))
        self.assertEqual(yard.chain(1).ledger("cy"), ((3, 1), (6, 1), (0, 1)))
        yard.do(("pace", "cy", 12))
        self.assertEqual(yard.do(("send", "cy", 0)), 2)
        self.assertEqual(yard.chain(0).ledger("cy"), ((0, 1), (0, 1), (0, 1)))
        self.assertEqual(yard.chain(0).pace("cy"), 12)
        yard.do(("call", "cy"))
        yard.do(("go", 1, 1))
        self.assertEqual(yard.do(("send", "cy", 1)), 1)
        self.assertEqual(yard.chain(1).called(), [])
        yard.do(("go", 1, 4))
        self.assertEqual(yard.chain(1).ledger("cy"), ((13, 4), (9, 1), (0, 1)))

    def test_a_name_that_was_dismissed_goes_on_with_its_ledger_too(self):
        yard = two_chains()
        yard.do(("call", "cy"))
        yard.do(("go", 3, 1))
        yard.do(("dismiss", "cy"))
        self.assertEqual(yard.chain(1).ledger("cy"), ((3, 1), (6, 1), (0, 1)))
        yard.do(("hire", "cy", 5))
        yard.do(("send", "cy", 1))
        yard.do(("go", 1, 1))
        self.assertEqual(yard.chain(1).ledger("cy"), ((4, 1), (11, 1), (0, 1)))


class InItsChainTest(YardCase):
    def test_called_away_and_told_to_stay(self):
        yard = two_chains()
        self.assertIsNone(yard.do(("call", "al")))
        self.assertIsNone(yard.do(("call", "cy")))
        self.assertEqual([yard.chain(number).called() for number in (0, 1)], [["al"], ["cy"]])
        self.assertYardRefused(Called, yard, "call", "al")
        self.assertYardRefused(NotCalled, yard, "stay", "bo")
        self.assertIsNone(yard.do(("stay", "al")))
        self.assertEqual([yard.chain(number).called() for number in (0, 1)], [[], ["cy"]])
        self.assertYardRefused(NotCalled, yard, "stay", "al")
        self.assertYardRefused(Called, yard, "call", "cy")

    def test_changing_places(self):
        yard = two_chains()
        yard.do(("go", 1, 1))
        self.assertIsNone(yard.do(("swap", "al")))
        chain = yard.chain(0)
        self.assertEqual(chain.hands(), ["bo", "al"])
        self.assertEqual([(chain.place(name), chain.pail(name)) for name in ("bo", "al")], [((1, 1), 1), ((3, 1), 0)])
        self.assertYardRefused(NoNext, yard, "swap", "al")
        self.assertYardRefused(NoNext, yard, "swap", "cy")
        self.assertIsNone(yard.do(("swap", "bo")))
        self.assertEqual(yard.chain(0).hands(), ["al", "bo"])

    def test_in_the_pool(self):
        yard = two_chains()
        for word in ("call", "stay", "swap"):
            for name in ("di", "ed"):
                self.assertYardRefused(Idle, yard, word, name)
        yard.do(("call", "cy"))
        yard.do(("go", 3, 1))
        for word in ("call", "stay", "swap"):
            self.assertYardRefused(Idle, yard, word, "cy")

    def test_strangers(self):
        yard = two_chains()
        yard.do(("dismiss", "di"))
        for name in STRANGERS + ["di"]:
            for word in ("call", "stay", "swap"):
                self.assertYardRefused(NoHand, yard, word, name)
                self.assertYardRefused(NoHand, Yard(), word, name)


class PaceTest(YardCase):
    def test_in_a_chain(self):
        yard = two_chains()
        self.assertIsNone(yard.do(("pace", "bo", 12)))
        self.assertEqual(yard.pace("bo"), 12)
        self.assertEqual(yard.chain(0).pace("bo"), 12)
        self.assertEqual(yard.chain(0).next_out(), (1, 1))
        self.assertEqual(yard.chain(1).pace("cy"), 2)

    def test_in_the_pool(self):
        yard = two_chains()
        self.assertIsNone(yard.do(("pace", "di", 1)))
        self.assertEqual(yard.pace("di"), 1)
        self.assertEqual(yard.pool(), ["di", "ed"])
        yard.do(("send", "di", 1))
        self.assertEqual(yard.chain(1).pace("di"), 1)

    def test_the_same_one_again(self):
        yard = two_chains()
        for name, pace in (("al", 1), ("di", 4)):
            self.assertIsNone(yard.do(("pace", name, pace)))
            self.assertEqual(yard.pace(name), pace)

    def test_refused(self):
        yard = two_chains()
        for pace in BAD_PACES:
            for name in ("al", "cy", "di"):
                self.assertYardRefused(BadPace, yard, "pace", name, pace)
        for pace in BAD_PACES + [1, 12]:
            for name in STRANGERS:
                self.assertYardRefused(NoHand, yard, "pace", name, pace)


if __name__ == "__main__":
    unittest.main()
