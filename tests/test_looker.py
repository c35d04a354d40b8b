"""The looker: logs of emptied pails [22], refused as in [20]."""

import random
import unittest
from copy import deepcopy
from fractions import Fraction

from model import Model, pair, pairs
from pailchain.errors import BadCount, BadLabour, BadPace
from pailchain.looker import log_fault

BAD_LABOURS = [0, -1, 55, 56, 10 ** 9, -(10 ** 9), True, False]
BAD_COUNTS = [[], [1] * 5, [13] * 5, [0] * 9]
BAD_PACES = [0, -1, 13, 10 ** 9, True, False]


def known_log(labour, paces, count):
    """The first rows, by the model."""
    model = Model(labour)
    for name, pace in zip("abcd", reversed(paces)):
        model.enter(name, pace)
    rows = []
    for each in range(count):
        model.outs(1)
        rows.append((pair(model.hour), pairs(model.places)))
    return rows


def random_hands(source):
    labour = source.choice([source.randint(1, 9), source.randint(1, 54)])
    return labour, [source.randint(1, 12) for each in range(source.randint(1, 4))]


def moved(amount, by):
    return pair(Fraction(*amount) + by)


class LogCase(unittest.TestCase):
    def assertFault(self, number, labour, paces, rows):
        """The number is told, and what is handed in stays."""
        handed = deepcopy((paces, rows))
        found = log_fault(labour, paces, rows)
        self.assertEqual(found, number)
        self.assertIs(type(found), type(number))
        self.assertEqual((paces, rows), handed)


class GoodLogTest(LogCase):
    def test_written_out(self):
        rows = [
            ((4, 1), [(0, 1), (4, 1), (8, 1)]),
            ((16, 3), [(0, 1), (4, 3), (20, 3)]),
            ((64, 9), [(0, 1), (16, 9), (44, 9)]),
        ]
        for count in range(4):
            self.assertFault(None, 12, [1, 2, 3], rows[:count])

    def test_one_hand(self):
        self.assertFault(None, 9, [2], [((9 * at, 2) if at % 2 else (9 * at // 2, 1), [(0, 1)]) for at in range(1, 21)])

    def test_several_pails_at_one_moment_are_one_row(self):
        rows = [((3 * at, 1), [(0, 1), (0, 1)]) for at in range(1, 21)]
        self.assertFault(None, 6, [4, 2], rows)
        self.assertFault(1, 6, [4, 2], [rows[0]] + rows)
        self.assertFault(None, 6, [9, 12, 7, 2], [(row[0], [(0, 1)] * 4) for row in rows])

    def test_no_rows(self):
        self.assertFault(None, 1, [1], [])
        self.assertFault(None, 54, [12, 1, 12, 1], [])

    def test_as_a_chain_walks_them(self):
        source = random.Random(22)
        for each in range(150):
            labour, paces = random_hands(source)
            rows = known_log(labour, paces, 20)
            self.assertFault(None, labour, paces, rows)
            self.assertFault(None, labour, paces, rows[:source.randint(0, 20)])

    def test_twenty_rows_and_some_more(self):
        for paces in ([1], [5, 7], [7, 5], [3, 5, 7, 11], [11, 7, 5, 3], [5, 11, 3, 7]):
            rows = known_log(54, paces, 25)
            for count in (19, 20, 21, 25):
                self.assertFault(None, 54, paces, rows[:count])
            rows[24] = (rows[24][0], rows[24][1][:-1] + [(53, 1)])
            self.assertFault(24, 54, paces, rows)


class FaultTest(LogCase):
    def setUp(self):
        source = random.Random(23)
        self.logs = []
        while len(self.logs) < 25:
            labour, paces = random_hands(source)
            if len(self.logs) % 2:
                # Slow to quick no two walk side by side, so most places are unlike.
                paces = sorted(paces)
            rows = known_log(labour, paces, source.choice([3, 8, 20]))
            self.logs.append((labour, paces, rows))

    def assertFaultWith(self, change):
        """The fault is told of each row that is changed so, of the first one where several are."""
        tried = 0
        for labour, paces, rows in self.logs:
            for at, row in enumerate(rows):
                other = change(*deepcopy(row))
                if other == row:
                    continue
                tried += 1
                self.assertFault(at, labour, paces, rows[:at] + [other] + rows[at + 1:])
                self.assertFault(at, labour, paces, rows[:at] + [other])
                again = [change(*deepcopy(late)) for late in rows[at + 1:]]
                self.assertFault(at, labour, paces, rows[:at] + [other] + again)
        self.assertGreater(tried, 50)

    def test_another_hour(self):
        for by in (1, -1, Fraction(1, 60), Fraction(-1, 10 ** 9)):
            self.assertFaultWith(lambda hour, places: (moved(hour, by), places))

    def test_another_place(self):
        for at in (0, -1):
            for by in (1, -1, Fraction(1, 60), Fraction(-1, 10 ** 9)):
                def change(hour, places):
                    places[at] = moved(places[at], by)
                    return hour, places
                self.assertFaultWith(change)

    def test_two_places_exchanged(self):
        def change(hour, places):
            places[0], places[-1] = places[-1], places[0]
            return hour, places
        self.assertFaultWith(change)

        def change_late(hour, places):
            return hour, places[:-2] + places[-2:][::-1]
        self.assertFaultWith(change_late)

    def test_one_place_too_many_or_too_few(self):
        self.assertFaultWith(lambda hour, places: (hour, places + places[-1:]))
        self.assertFaultWith(lambda hour, places: (hour, places[:1] + places))
        self.assertFaultWith(lambda hour, places: (hour, places[:-1]))
        self.assertFaultWith(lambda hour, places: (hour, places[1:]))
        self.assertFaultWith(lambda hour, places: (hour, []))

    def test_a_row_twice_left_out_or_exchanged(self):
        for labour, paces, rows in self.logs:
            for at in range(len(rows)):
                self.assertFault(at + 1, labour, paces, rows[:at + 1] + rows[at:])
            for at in range(len(rows) - 1):
                self.assertFault(at, labour, paces, rows[:at] + rows[at + 1:])
                self.assertFault(at, labour, paces, rows[:at] + [rows[at + 1], rows[at]] + rows[at + 2:])
            self.assertFault(0, labour, paces, rows[::-1])

    def test_places_ahead_of_the_turn(self):
        self.assertFault(0, 12, [1, 2, 3], [((4, 1), [(4, 1), (8, 1), (12, 1)])])
        self.assertFault(0, 6, [4, 2], [((3, 1), [(6, 1), (6, 1)])])
        self.assertFault(0, 6, [4, 2], [((3, 1), [(0, 1), (6, 1)])])

    def test_hours_since_the_row_before(self):
        self.assertFault(1, 12, [1, 2, 3], [
            ((4, 1), [(0, 1), (4, 1), (8, 1)]), ((4, 3), [(0, 1), (4, 3), (20, 3)]),
        ])

    def test_the_log_of_other_hands(self):
        rows = known_log(12, [1, 2, 3], 5)
        self.assertFault(0, 11, [1, 2, 3], rows)
        self.assertFault(0, 12, [1, 2, 4], rows)
        self.assertFault(0, 12, [1, 2], rows)
        self.assertFault(0, 12, [1, 1, 3], rows)
        self.assertFault(0, 12, [3, 2, 1], rows)

    def test_pairs_that_are_no_amounts(self):
        rows = known_log(12, [1, 2, 3], 2)
        self.assertFault(0, 12, [1, 2, 3], [((8, 2), rows[0][1])] + rows[1:])
        self.assertFault(0, 12, [1, 2, 3], [(rows[0][0], [(0, 1), (8, 2), (8, 1)])] + rows[1:])
        self.assertFault(0, 12, [1, 2, 3], [(rows[0][0], [(0, 2), (4, 1), (8, 1)])] + rows[1:])

    def test_true_and_false_are_no_numbers(self):
        self.assertFault(None, 1, [1, 1], [((1, 1), [(0, 1), (0, 1)])])
        self.assertFault(0, 1, [1, 1], [((True, 1), [(0, 1), (0, 1)])])
        self.assertFault(0, 1, [1, 1], [((1, True), [(0, 1), (0, 1)])])
        self.assertFault(0, 1, [1, 1], [((1, 1), [(0, 1), (False, 1)])])
        self.assertFault(0, 1, [1, 1], [((1, 1), [(0, True), (0, 1)])])


class RefusedTest(unittest.TestCase):
    def assertRefused(self, refusal, labour, paces):
        handed = list(paces)
        for rows in ([], [((1, 1), [(0, 1)])], [((-1, 7), [])], known_log(54, [7], 20)):
            told = deepcopy(rows)
            with self.assertRaises(refusal) as caught:
                log_fault(labour, paces, rows)
            self.assertIs(type(caught.exception), refusal)
            self.assertEqual((paces, rows), (handed, told))

    def test_labour(self):
        for labour in BAD_LABOURS:
            for paces in BAD_COUNTS + [[1], [12] * 4, [0], [13, 1]]:
                self.assertRefused(BadLabour, labour, paces)

    def test_count(self):
        for paces in BAD_COUNTS:
            for labour in (1, 54):
                self.assertRefused(BadCount, labour, paces)

    def test_pace(self):
        for pace in BAD_PACES:
            for paces in ([pace], [pace, 1, 1, 1], [12, 12, 12, pace]):
                self.assertRefused(BadPace, 1, paces)
                self.assertRefused(BadPace, 54, paces)

    def test_the_edges_are_good(self):
        for labour in (1, 54):
            for pace in (1, 12):
                for count in range(1, 5):
                    rows = known_log(labour, [pace] * count, 20)
                    self.assertIsNone(log_fault(labour, [pace] * count, rows))


if __name__ == "__main__":
    unittest.main()
