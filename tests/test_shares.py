"""Shares: their table, what lies behind some rounds, the spread, the narrowing, the resting shares [16] to [19]."""

import random
import unittest
from copy import deepcopy
from fractions import Fraction

from model import pair, pairs
from pailchain.chain import Chain
from pailchain.errors import BadCount, BadPace, BadPlace, BadWay, NotRising
from pailchain.shares import behind, narrowing, resting, shares, spread, table

PACES = [
    [1], [7], [12], [2, 3], [1, 12], [5, 5], [3, 6, 12], [4, 4, 9], [1, 1, 1], [2, 7, 7, 11], [1, 2, 3, 4, 5],
    [6, 6, 6, 6, 6, 6], [1, 2, 3, 5, 7, 11, 12], [1, 2, 4, 5, 7, 8, 10, 11], [3, 3, 3, 3, 9, 9, 9, 9], [12] * 8,
]
BAD_PACES = [0, -1, 13, 10 ** 9, -(10 ** 9), True, False]
BAD_ROUNDS = [-1, -24, 25, 26, 10 ** 9, -(10 ** 9), True, False]
BAD_WAYS = [[], [(1, 1)] * 7, [(0, 1)], [(1, 10)]]
WAY = [(4, 3)]


def fractions(amounts):
    return [Fraction(*one) for one in amounts]


def random_shares(source, count):
    return [Fraction(source.randint(0, 90), source.randint(1, 12)) for each in range(count)]


def one_round(paces):
    """The table of one round, written down from point 17."""
    last = len(paces) - 1
    rows = [[Fraction(at == last) for at in range(len(paces))]]
    for at in range(1, len(paces)):
        row = [Fraction(0)] * len(paces)
        row[at - 1] += Fraction(paces[at - 1], paces[at])
        row[last] += 1 - Fraction(paces[at - 1], paces[at])
        rows.append(row)
    return rows


def product(one, other):
    return [[sum(row[k] * other[k][at] for k in range(len(other))) for at in range(len(other))] for row in one]


def known_table(paces, rounds):
    found = [[Fraction(at == row) for at in range(len(paces))] for row in range(len(paces))]
    for each in range(rounds):
        found = product(one_round(paces), found)
    return found


def chain_of(way, paces):
    chain = Chain(way)
    for name, pace in zip("abcdefgh", reversed(paces)):
        chain.enter(name, pace)
    return chain


class SharesTest(unittest.TestCase):
    def test_written_out(self):
        self.assertEqual(shares(WAY, [2], [(0, 1)]), [(6, 1)])
        self.assertEqual(shares(WAY, [2, 3], [(0, 1), (5, 1)]), [(5, 2), (7, 3)])
        self.assertEqual(shares(WAY, [1, 2, 3], [(0, 1), (0, 1), (23, 2)]), [(0, 1), (23, 4), (1, 6)])

    def test_at_the_beginning(self):
        for paces in PACES:
            found = shares(WAY, paces, [(0, 1)] * len(paces))
            self.assertEqual(found, [(0, 1)] * (len(paces) - 1) + [pair(Fraction(12, paces[-1]))])

    def test_behind_each_turn_of_a_chain(self):
        for paces in PACES:
            way = [(3, 1), (2, 5)]
            chain = chain_of(way, paces)
            begin = shares(way, paces, [(0, 1)] * len(paces))
            while len(chain.emptied()) <= 24:
                places = [chain.place(name) for name in chain.hands()]
                found = shares(way, paces, places)
                self.assertEqual(found, behind(paces, begin, len(chain.emptied())))
                self.assertEqual(chain.next_out(), found[-1])
                self.assertEqual(sum(share * pace for share, pace in zip(fractions(found), paces)), 13)
                chain.outs(1)

    def test_refused(self):
        bad_counts = [[], [1] * 9, [1] * 20]
        for way in BAD_WAYS:
            for paces in ([1, 2], [2, 1], [0], [13, 0], *bad_counts):
                for places in ([], [(0, 1)], [(1, 1), (0, 1)]):
                    self.assertRaises(BadWay, shares, way, paces, places)
        for paces in bad_counts:
            self.assertRaises(BadCount, shares, WAY, paces, [(0, 1)] * len(paces))
            self.assertRaises(BadCount, shares, WAY, paces, [(1, 1)] * len(paces))
        self.assertRaises(BadCount, shares, WAY, [13] * 9, [(1, 1)] * 9)
        for pace in BAD_PACES:
            self.assertRaises(BadPace, shares, WAY, [pace], [(0, 1)])
            self.assertRaises(BadPace, shares, WAY, [3, 2, pace], [(1, 1)] * 3)
            self.assertRaises(BadPace, shares, WAY, [pace, 3, 2], [(0, 1)] * 3)
        for paces in ([2, 1], [12, 11], [1, 3, 2], [2, 2, 1, 1], [1, 2, 3, 4, 5, 6, 8, 7]):
            self.assertRaises(NotRising, shares, WAY, paces, [(0, 1)] * len(paces))
            self.assertRaises(NotRising, shares, WAY, paces, [(1, 1)] * len(paces))

    def test_unlike_lengths(self):
        for paces, places in (([1], []), ([], [(0, 1)]), ([1], [(0, 1)] * 2), ([1, 2], [(0, 1)]),
                              ([0, 2], [(0, 1)]), ([2, 1], [(0, 1)]), ([2, 1], [(1, 1)] * 3), ([13], [(1, 1)] * 2)):
            self.assertRaises(BadCount, shares, WAY, paces, places)

    def test_bad_places(self):
        for places in ([(1, 1)], [(1, 60)], [(-1, 1)], [(12, 1)], [(0, 1), (-1, 1)], [(1, 1), (1, 1)],
                       [(0, 1), (12, 1)], [(0, 1), (13, 1)], [(0, 1), (721, 60)],
                       [(0, 1), (5, 1), (4, 1)], [(0, 1), (13, 1), (4, 1)], [(0, 1), (-1, 1), (4, 1)]):
            self.assertRaises(BadPlace, shares, WAY, [1, 2, 3][:len(places)], places)
        self.assertEqual(shares(WAY, [1, 2], [(0, 1), (719, 60)]), [(719, 60), (1, 120)])


class TableTest(unittest.TestCase):
    def test_written_out(self):
        self.assertEqual(table([2, 3], 0), [[(1, 1), (0, 1)], [(0, 1), (1, 1)]])
        self.assertEqual(table([2, 3], 1), [[(0, 1), (1, 1)], [(2, 3), (1, 3)]])
        self.assertEqual(table([2, 3], 2), [[(2, 3), (1, 3)], [(2, 9), (7, 9)]])
        self.assertEqual(table([1, 2, 4], 1), [
            [(0, 1), (0, 1), (1, 1)], [(1, 2), (0, 1), (1, 2)], [(0, 1), (1, 2), (1, 2)],
        ])
        self.assertEqual(table([5], 0), [[(1, 1)]])
        self.assertEqual(table([5], 24), [[(1, 1)]])

    def test_going_on(self):
        for paces in PACES:
            for rounds in (0, 1, 2, 3, 7, 24):
                found = table(paces, rounds)
                self.assertEqual(found, [pairs(row) for row in known_table(paces, rounds)])
                for row in found:
                    self.assertGreaterEqual(min(fractions(row)), 0)
                    self.assertEqual(sum(fractions(row)), 1)

    def test_each_told_list_is_fresh(self):
        for paces in ([4], [2, 3], [3, 3, 3]):
            known = table(paces, 2)
            found = table(paces, 2)
            found[0][0] = (9, 9)
            self.assertEqual(found[1:], known[1:])
            found.clear()
            self.assertEqual(table(paces, 2), known)


class BehindTest(unittest.TestCase):
    def test_written_out(self):
        self.assertEqual(behind([2, 3], [(5, 2), (7, 3)], 1), [(7, 3), (22, 9)])
        self.assertEqual(behind([2, 3], [(5, 2), (7, 3)], 0), [(5, 2), (7, 3)])
        self.assertEqual(behind([9], [(5, 2)], 24), [(5, 2)])

    def test_as_the_table_tells(self):
        source = random.Random(17)
        for paces in PACES:
            for rounds in (0, 1, 2, 5, 24):
                found = random_shares(source, len(paces))
                known = [sum(part * share for part, share in zip(row, found)) for row in known_table(paces, rounds)]
                self.assertEqual(behind(paces, pairs(found), rounds), pairs(known))

    def test_by_parts(self):
        source = random.Random(18)
        for paces in PACES:
            found = pairs(random_shares(source, len(paces)))
            whole = behind(paces, found, 11)
            self.assertEqual(behind(paces, behind(paces, found, 4), 7), whole)

    def test_what_is_handed_in_stays_and_what_is_told_is_fresh(self):
        paces, found = [2, 3], [(5, 2), (7, 3)]
        for rounds in (0, 1):
            told = behind(paces, found, rounds)
            told.append((1, 1))
            self.assertEqual((paces, found), ([2, 3], [(5, 2), (7, 3)]))

    def test_unlike_numbers(self):
        for paces in PACES:
            for count in (0, len(paces) - 1, len(paces) + 1, 20):
                if count != len(paces):
                    self.assertRaises(BadCount, behind, paces, [(1, 1)] * count, 3)


class RefusedTest(unittest.TestCase):
    def assertRefused(self, refusal, paces, rounds):
        found = [(1, 1)] * len(paces)
        self.assertRaises(refusal, table, paces, rounds)
        self.assertRaises(refusal, narrowing, paces, rounds)
        self.assertRaises(refusal, behind, paces, found, rounds)

    def test_rounds(self):
        for paces in PACES:
            for rounds in BAD_ROUNDS:
                self.assertRefused(BadCount, paces, rounds)
            for rounds in (0, 24):
                self.assertEqual(len(table(paces, rounds)), len(paces))
                self.assertEqual(len(behind(paces, [(1, 1)] * len(paces), rounds)), len(paces))
                self.assertIs(type(narrowing(paces, rounds)), tuple)

    def test_paces(self):
        for rounds in [0, 3] + BAD_ROUNDS:
            for paces in ([], [1] * 9, [13] * 9, [9, 8, 7, 6, 5, 4, 3, 2, 1]):
                self.assertRefused(BadCount, paces, rounds)
            for pace in BAD_PACES:
                for paces in ([pace], [pace, 3, 2], [3, 2, pace], [3, pace, 2]):
                    self.assertRefused(BadPace, paces, rounds)
            for paces in ([2, 1], [1, 3, 2], [12, 12, 12, 11]):
                self.assertRefused(NotRising, paces, rounds)

    def test_paces_of_resting_shares(self):
        for paces in ([], [1] * 9, [13] * 9):
            self.assertRaises(BadCount, resting, WAY, paces)
        for pace in BAD_PACES:
            self.assertRaises(BadPace, resting, WAY, [3, 2, pace])
        self.assertRaises(NotRising, resting, WAY, [2, 1])
        for way in BAD_WAYS:
            for paces in ([1, 2], [], [1] * 9, [0], [2, 1]):
                self.assertRaises(BadWay, resting, way, paces)

    def test_nothing_is_changed(self):
        way, paces, places, found = [(4, 3)], [1, 2, 2], [(0, 1), (1, 2), (3, 1)], [(1, 2), (0, 1), (3, 1)]
        handed = [way, paces, places, found]
        before = deepcopy(handed)
        told = [shares(way, paces, places), table(paces, 3), behind(paces, found, 3), resting(way, paces)]
        spread(found)
        narrowing(paces, 3)
        self.assertEqual(handed, before)
        for one in told:
            one.clear()
        self.assertEqual(handed, before)


class SpreadTest(unittest.TestCase):
    def test_written_out(self):
        self.assertEqual(spread([(5, 2)]), (0, 1))
        self.assertEqual(spread([(5, 2), (7, 3)]), (1, 6))
        self.assertEqual(spread([(7, 3), (5, 2)]), (1, 6))
        self.assertEqual(spread([(1, 1), (0, 1), (9, 2), (3, 1)]), (9, 2))
        self.assertEqual(spread([(1, 3)] * 8), (0, 1))

    def test_against_fractions(self):
        source = random.Random(19)
        for each in range(200):
            found = random_shares(source, source.randint(1, 8))
            self.assertEqual(spread(pairs(found)), pair(max(found) - min(found)))

    def test_it_never_grows(self):
        source = random.Random(20)
        for paces in PACES:
            found = pairs(random_shares(source, len(paces)))
            for each in range(24):
                later = behind(paces, found, 1)
                self.assertLessEqual(Fraction(*spread(later)), Fraction(*spread(found)))
                found = later


class NarrowingTest(unittest.TestCase):
    def test_written_out(self):
        self.assertEqual(narrowing([2, 3], 0), (1, 1))
        self.assertEqual(narrowing([2, 3], 1), (2, 3))
        self.assertEqual(narrowing([2, 3], 2), (4, 9))
        self.assertEqual(narrowing([1, 2, 4], 1), (1, 2))
        self.assertEqual(narrowing([7, 7], 24), (1, 1))

    def test_one_hand_alone(self):
        for rounds in (0, 1, 24):
            self.assertEqual(narrowing([3], rounds), (0, 1))

    def test_against_the_table(self):
        for paces in PACES:
            for rounds in (0, 1, 2, 5, 24):
                rows = known_table(paces, rounds)
                known = 1 - min(sum(map(min, one, other)) for one in rows for other in rows)
                self.assertEqual(narrowing(paces, rounds), pair(known))

    def test_the_spread_is_at_most_so_much_of_the_one_ahead(self):
        source = random.Random(21)
        for paces in PACES:
            for rounds in (0, 1, 3, 8, 24):
                part = Fraction(*narrowing(paces, rounds))
                self.assertTrue(0 <= part <= 1)
                for each in range(10):
                    found = pairs(random_shares(source, len(paces)))
                    later = Fraction(*spread(behind(paces, found, rounds)))
                    self.assertLessEqual(later, part * Fraction(*spread(found)))


class RestingTest(unittest.TestCase):
    def test_written_out(self):
        self.assertEqual(resting([(4, 3)], [2, 3]), [(12, 5), (12, 5)])
        self.assertEqual(resting([(4, 3)], [12]), [(1, 1)])
        self.assertEqual(resting([(3, 1), (2, 5)], [1, 2, 3]), [(13, 6)] * 3)

    def test_behind_a_round_they_are_as_they_were(self):
        for paces in PACES:
            for way in ([(4, 3)], [(3, 1), (2, 5)], [(9, 9)] * 6):
                found = resting(way, paces)
                whole = sum(count * toil for count, toil in way)
                self.assertEqual(found, [pair(Fraction(whole, sum(paces)))] * len(paces))
                for rounds in (0, 1, 24):
                    self.assertEqual(behind(paces, found, rounds), found)

    def test_the_same_paces_let_the_shares_go_round(self):
        source = random.Random(22)
        for count in range(1, 9):
            paces = [source.randint(1, 12)] * count
            found = pairs(random_shares(source, count))
            self.assertEqual(behind(paces, found, 1), found[-1:] + found[:-1])
            self.assertEqual(behind(paces, found, count), found)
            self.assertEqual(behind(paces, found, 24 // count * count), found)


if __name__ == "__main__":
    unittest.main()
