import random
import unittest
from fractions import Fraction

from model import pair, pairs, places_on
from pailchain.walking import meeting, speeds, walked


def random_row(source, labour):
    """Paces and places of some hands, several often at one place."""
    count = source.randint(1, 8)
    paces = [source.randint(1, 12) for each in range(count)]
    spots = [Fraction(source.randint(0, 6 * labour - 1), 6) for each in range(source.randint(1, 4))]
    return paces, sorted(source.choice(spots) for each in range(count))


class SpeedsTest(unittest.TestCase):
    def test_no_hands(self):
        self.assertEqual(speeds([], []), [])

    def test_one_hand_walks_at_its_own_pace(self):
        for pace in range(1, 13):
            self.assertEqual(speeds([pace], [(0, 1)]), [pace])
            self.assertEqual(speeds([pace], [(7, 2)]), [pace])

    def test_apart_all_walk_at_their_own_paces(self):
        self.assertEqual(speeds([12, 7, 1], [(0, 1), (1, 60), (1, 1)]), [12, 7, 1])
        self.assertEqual(speeds([1, 7, 12], [(0, 1), (1, 60), (1, 1)]), [1, 7, 12])

    def test_quick_ones_walk_behind_slow_ones_at_one_place(self):
        for place in ((0, 1), (5, 3)):
            self.assertEqual(speeds([12, 4], [place] * 2), [4, 4])
            self.assertEqual(speeds([12, 9, 4], [place] * 3), [4, 4, 4])
            self.assertEqual(speeds([12, 4, 9], [place] * 3), [4, 4, 9])
            self.assertEqual(speeds([3, 9, 5], [place] * 3), [3, 5, 5])
            self.assertEqual(speeds([8, 2, 7, 5, 11], [place] * 5), [2, 2, 5, 5, 11])

    def test_slow_ones_walk_at_their_own_paces_at_one_place(self):
        self.assertEqual(speeds([1, 2, 3, 4], [(0, 1)] * 4), [1, 2, 3, 4])
        self.assertEqual(speeds([6, 6, 6], [(9, 2)] * 3), [6, 6, 6])

    def test_only_who_is_at_the_very_place_of_the_next_one(self):
        places = [(1, 1), (2, 1), (2, 1), (3, 1)]
        self.assertEqual(speeds([12, 9, 7, 1], places), [12, 7, 7, 1])
        places = [(2, 1), (2, 1), (3, 1), (3, 1)]
        self.assertEqual(speeds([12, 9, 7, 1], places), [9, 9, 1, 1])

    def test_what_is_told_are_numbers_in_a_fresh_list(self):
        paces, places = [5, 3, 4], [(0, 1), (0, 1), (1, 2)]
        found = speeds(paces, places)
        self.assertEqual(found, [3, 3, 4])
        self.assertEqual({type(speed) for speed in found}, {int})
        found.append(9)
        self.assertEqual((paces, places), ([5, 3, 4], [(0, 1), (0, 1), (1, 2)]))
        self.assertEqual(speeds(paces, places), [3, 3, 4])
        alone = [7]
        self.assertIsNot(speeds(alone, [(0, 1)]), alone)


class MeetingTest(unittest.TestCase):
    def test_no_hands(self):
        self.assertIsNone(meeting(10, [], []))

    def test_the_last_one_comes_to_the_fire(self):
        self.assertEqual(meeting(10, [4], [(0, 1)]), (5, 2))
        self.assertEqual(meeting(10, [4], [(19, 2)]), (1, 8))
        self.assertEqual(meeting(10, [2, 4], [(0, 1), (3, 1)]), (7, 4))

    def test_a_hand_comes_to_the_place_of_the_next_one(self):
        self.assertEqual(meeting(100, [5, 2], [(1, 1), (3, 1)]), (2, 3))
        self.assertEqual(meeting(100, [7, 5, 2], [(0, 1), (2, 1), (6, 1)]), (1, 1))
        self.assertEqual(meeting(100, [7, 5, 2], [(0, 1), (2, 1), (4, 1)]), (2, 3))

    def test_the_fire_ahead_of_a_place_and_behind_it(self):
        self.assertEqual(meeting(10, [5, 2], [(1, 1), (9, 1)]), (1, 2))
        self.assertEqual(meeting(10, [5, 2], [(1, 1), (4, 1)]), (1, 1))
        self.assertEqual(meeting(8, [5, 2], [(1, 1), (4, 1)]), (1, 1))
        self.assertEqual(meeting(6, [5, 2], [(1, 1), (4, 1)]), (1, 1))
        self.assertEqual(meeting(5, [5, 2], [(1, 1), (4, 1)]), (1, 2))

    def test_who_was_there_does_not_come_there(self):
        self.assertEqual(meeting(10, [5, 2], [(4, 1), (4, 1)]), (3, 1))
        self.assertEqual(meeting(10, [2, 5], [(4, 1), (4, 1)]), (6, 5))
        self.assertEqual(meeting(10, [9, 5, 2], [(0, 1)] * 3), (5, 1))

    def test_who_is_not_quicker_does_not_come_there(self):
        self.assertEqual(meeting(10, [2, 2], [(3, 1), (4, 1)]), (3, 1))
        self.assertEqual(meeting(10, [1, 2], [(3, 1), (4, 1)]), (3, 1))

    def test_how_the_next_one_walks_counts_not_its_pace(self):
        # The second one, of pace 9, walks behind the third one.
        self.assertEqual(meeting(100, [6, 9, 4], [(0, 1), (3, 1), (3, 1)]), (3, 2))
        # The first one walks behind the second one.
        self.assertEqual(meeting(100, [12, 5, 4], [(0, 1), (0, 1), (3, 1)]), (3, 1))

    def test_nothing_is_changed(self):
        paces, places = [7, 5, 2], [(0, 1), (2, 1), (6, 1)]
        meeting(100, paces, places)
        self.assertEqual((paces, places), ([7, 5, 2], [(0, 1), (2, 1), (6, 1)]))

    def test_against_the_first_bend(self):
        source = random.Random(6)
        for each in range(600):
            labour = source.randint(1, 30)
            paces, places = random_row(source, labour)
            hours = Fraction(*meeting(labour, paces, pairs(places)))
            self.assertGreater(hours, 0)
            ends = places_on(paces, places, hours)
            half = places_on(paces, places, hours / 2)
            # Till the meeting all walk on evenly, and nobody comes to the next one or the fire earlier.
            self.assertEqual([2 * middle - place for middle, place in zip(half, places)], ends)
            fresh = ends[-1] == labour
            for at in range(len(paces) - 1):
                if places[at] < places[at + 1]:
                    self.assertLess(half[at], half[at + 1])
                    fresh = fresh or ends[at] == ends[at + 1]
            self.assertLess(half[-1], labour)
            self.assertTrue(fresh)


class WalkedTest(unittest.TestCase):
    def test_no_hands(self):
        self.assertEqual(walked([], [], (3, 1)), [])

    def test_written_out(self):
        self.assertEqual(walked([5, 2], [(1, 1), (3, 1)], (2, 3)), [(13, 3), (13, 3)])
        self.assertEqual(walked([5, 2], [(1, 1), (3, 1)], (1, 2)), [(7, 2), (4, 1)])
        self.assertEqual(walked([5, 2], [(3, 1), (3, 1)], (1, 2)), [(4, 1), (4, 1)])
        self.assertEqual(walked([12, 4, 9], [(1, 2)] * 3, (1, 4)), [(3, 2), (3, 2), (11, 4)])

    def test_no_hours(self):
        places = [(0, 1), (1, 2), (1, 2)]
        found = walked([1, 9, 5], places, (0, 1))
        self.assertEqual(found, places)
        self.assertIsNot(found, places)

    def test_what_is_handed_in_stays_and_what_is_told_is_fresh(self):
        paces, places = [5, 2], [(1, 1), (3, 1)]
        found = walked(paces, places, (1, 3))
        found.clear()
        self.assertEqual((paces, places), ([5, 2], [(1, 1), (3, 1)]))
        self.assertEqual(walked(paces, places, (1, 3)), [(8, 3), (11, 3)])

    def test_parts_of_the_hours_till_the_meeting(self):
        source = random.Random(5)
        for each in range(400):
            labour = source.randint(1, 30)
            paces, places = random_row(source, labour)
            till = Fraction(*meeting(labour, paces, pairs(places)))
            for part in (Fraction(1, 7), Fraction(1, 2), Fraction(1)):
                found = walked(paces, pairs(places), pair(till * part))
                self.assertEqual(found, pairs(places_on(paces, places, till * part)))

    def test_meeting_by_meeting_to_the_fire(self):
        source = random.Random(7)
        for each in range(300):
            labour = source.randint(1, 30)
            paces, begin = random_row(source, labour)
            places, hours, meetings = pairs(begin), Fraction(0), 0
            while places[-1] != (labour, 1):
                till = meeting(labour, paces, places)
                places = walked(paces, places, till)
                hours += Fraction(*till)
                meetings += 1
            self.assertEqual(hours, (labour - begin[-1]) / Fraction(paces[-1]))
            self.assertEqual(places, pairs(places_on(paces, begin, hours)))
            self.assertLessEqual(meetings, len(paces))


if __name__ == "__main__":
    unittest.main()
