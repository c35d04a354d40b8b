"""Orders: pails emptied by an order, the best of all orders, the bound [20], [21]."""

import random
import unittest
from fractions import Fraction
from itertools import permutations

from model import Model, pair
from pailchain.errors import BadCount, BadLabour, BadPace, BadTime, TooLong
from pailchain.orders import best, bound, emptied_by

BAD_LABOURS = [0, -1, 55, 56, 10 ** 9, -(10 ** 9), True, False]
BAD_COUNTS = [[], [1] * 5, [13] * 5, [0] * 9]
BAD_PACES = [0, -1, 13, 10 ** 9, True, False]
BAD_HOURS = [(-1, 1), (-1, 60), (61, 1), (3601, 60), (1, 61), (1, 10 ** 9), (10 ** 9, 1)]


def known_count(labour, paces, hours):
    """How many pails the model empties."""
    model = Model(labour)
    for name, pace in zip("abcd", reversed(paces)):
        model.enter(name, pace)
    model.go(hours)
    return len(model.emptied)


def random_case(source):
    """Labour, paces and hours that can be done."""
    while True:
        labour = source.choice([source.randint(1, 9), source.randint(1, 54)])
        paces = [source.randint(1, 12) for each in range(source.randint(1, 4))]
        hours = Fraction(source.randint(0, 120), source.choice([1, 2, 3, 5, 12, 60]))
        if hours <= 60 and hours * sum(paces) <= 60 * labour:
            return labour, paces, hours


class EmptiedByTest(unittest.TestCase):
    def test_written_out(self):
        # 2 ahead of 4 on a way of labour 6: both pails are at the fire after 3 hours.
        self.assertEqual(emptied_by(6, [4, 2], (3, 1)), 2)
        self.assertEqual(emptied_by(6, [4, 2], (179, 60)), 0)
        # 4 ahead of 2: after 3/2, 9/4, 27/8 hours ..
        self.assertEqual([emptied_by(6, [2, 4], hours) for hours in ((89, 60), (3, 2), (9, 4), (3, 1))], [0, 1, 2, 2])
        self.assertEqual(emptied_by(12, [1, 2, 3], (4, 1)), 1)
        self.assertEqual(emptied_by(12, [3, 2, 1], (12, 1)), 3)
        self.assertEqual(emptied_by(12, [3, 2, 1], (35, 3)), 0)

    def test_one_hand(self):
        for labour in (1, 7, 9, 10, 53, 54):
            for pace in (1, 5, 12):
                for hours in (Fraction(0), Fraction(labour, pace), Fraction(5, 2)):
                    if hours.denominator <= 60 and hours <= 60:
                        known = int(hours * pace / labour)
                        self.assertEqual(emptied_by(labour, [pace], pair(hours)), known)

    def test_all_labours(self):
        for labour in range(1, 55):
            self.assertEqual(emptied_by(labour, [3, 1], (labour, 1)), 2)
            self.assertEqual(emptied_by(labour, [3, 1], pair(labour - Fraction(1, 60))), 0)
            self.assertEqual(emptied_by(labour, [12], pair(Fraction(labour, 12))), 1)

    def test_no_hours(self):
        self.assertEqual(emptied_by(1, [12, 12, 12, 12], (0, 1)), 0)

    def test_against_the_model(self):
        source = random.Random(20)
        for each in range(300):
            labour, paces, hours = random_case(source)
            found = emptied_by(labour, paces, pair(hours))
            self.assertIs(type(found), int)
            self.assertEqual(found, known_count(labour, paces, hours))


class BestTest(unittest.TestCase):
    def test_written_out(self):
        self.assertEqual(best(6, [4, 2], (3, 2)), (1, [1, 0]))
        self.assertEqual(best(6, [4, 2], (3, 1)), (2, [0, 1]))
        self.assertEqual(best(6, [2, 4], (3, 1)), (2, [0, 1]))
        self.assertEqual(best(6, [5], (6, 5)), (1, [0]))

    def test_another_order_than_slow_to_quick(self):
        self.assertEqual(emptied_by(12, [1, 5, 6], (21, 2)), 9)
        self.assertEqual(best(12, [6, 5, 1], (21, 2)), (10, [2, 0, 1]))
        self.assertEqual(emptied_by(12, [1, 6, 5], (21, 2)), 10)
        self.assertEqual(emptied_by(29, [2, 9, 9, 10], (19, 2)), 8)
        self.assertEqual(best(29, [10, 2, 9, 9], (19, 2)), (9, [1, 2, 0, 3]))

    def test_the_first_of_several_best_ones(self):
        for count in range(1, 5):
            self.assertEqual(best(9, [7] * count, (5, 1)), (known_count(9, [7] * count, 5), list(range(count))))
            self.assertEqual(best(54, [12, 1, 5, 3][:count], (0, 1)), (0, list(range(count))))
        self.assertEqual(best(6, [4, 2, 2], (3, 2)), (1, [1, 2, 0]))

    def test_what_is_told_is_a_pair_with_a_fresh_list(self):
        paces = [4, 2]
        found = best(6, paces, (3, 2))
        self.assertIs(type(found), tuple)
        self.assertIs(type(found[1]), list)
        found[1].clear()
        self.assertEqual(paces, [4, 2])
        self.assertEqual(best(6, paces, (3, 2)), (1, [1, 0]))

    def test_against_all_orders_of_the_model(self):
        source = random.Random(21)
        for each in range(60):
            labour, paces, hours = random_case(source)
            counts = {}
            for order in permutations(range(len(paces))):
                counts[order] = known_count(labour, [paces[number] for number in order], hours)
            most = max(counts.values())
            first = min(order for order in counts if counts[order] == most)
            self.assertEqual(best(labour, paces, pair(hours)), (most, list(first)))


class BoundTest(unittest.TestCase):
    def test_written_out(self):
        self.assertEqual(bound(6, [4, 2], (3, 1)), 3)
        self.assertEqual(bound(6, [4, 2], (179, 60)), 2)
        self.assertEqual(bound(54, [12], (9, 2)), 1)
        self.assertEqual(bound(54, [12], (269, 60)), 0)
        self.assertEqual(bound(7, [1, 2, 3, 4], (0, 1)), 0)
        self.assertEqual(bound(1, [1], (60, 1)), 60)

    def test_no_order_goes_beyond_and_slow_to_quick_is_near(self):
        source = random.Random(23)
        for each in range(120):
            labour, paces, hours = random_case(source)
            most = best(labour, paces, pair(hours))[0]
            limit = bound(labour, paces, pair(hours))
            self.assertIs(type(limit), int)
            self.assertEqual(limit, int(hours * sum(paces) / labour))
            self.assertLessEqual(most, limit)
            self.assertLess(most - emptied_by(labour, sorted(paces), pair(hours)), len(paces))


class RefusedTest(unittest.TestCase):
    def assertRefused(self, refusal, labour, paces, hours):
        handed = list(paces)
        for asked in (emptied_by, best, bound):
            self.assertRaises(refusal, asked, labour, paces, hours)
        self.assertEqual(paces, handed)

    def test_labour(self):
        for labour in BAD_LABOURS:
            self.assertRefused(BadLabour, labour, [1], (1, 1))
            self.assertRefused(BadLabour, labour, [12] * 4, (60, 1))
            for paces in BAD_COUNTS + [[0], [13, 1]]:
                self.assertRefused(BadLabour, labour, paces, (-1, 1))

    def test_count(self):
        for paces in BAD_COUNTS:
            for hours in [(1, 1)] + BAD_HOURS:
                self.assertRefused(BadCount, 54, paces, hours)

    def test_pace(self):
        for pace in BAD_PACES:
            for hours in [(1, 1), (60, 1)] + BAD_HOURS:
                self.assertRefused(BadPace, 1, [pace], hours)
                self.assertRefused(BadPace, 1, [12, 12, 12, pace], hours)
                self.assertRefused(BadPace, 1, [pace, 12, 12, 12], hours)

    def test_hours(self):
        for hours in BAD_HOURS:
            for labour in (1, 54):
                self.assertRefused(BadTime, labour, [12] * 4, hours)

    def test_too_long(self):
        self.assertRefused(TooLong, 1, [1, 1], (60, 1))
        self.assertRefused(TooLong, 1, [12] * 4, (19, 15))
        self.assertRefused(TooLong, 5, [1, 3, 3], (2581, 60))
        self.assertRefused(TooLong, 47, [12] * 4, (59, 1))

    def test_just_sixty_times_the_labour(self):
        self.assertEqual(bound(1, [12] * 4, (5, 4)), 60)
        self.assertEqual(emptied_by(1, [12] * 4, (5, 4)), 60)
        self.assertEqual(best(1, [12] * 4, (5, 4)), (60, [0, 1, 2, 3]))
        self.assertEqual(bound(48, [12] * 4, (60, 1)), 60)
        self.assertEqual(emptied_by(48, [12] * 4, (60, 1)), 60)


if __name__ == "__main__":
    unittest.main()
