import unittest
from fractions import Fraction

from pailchain.errors import BadPlace, BadWay
from pailchain.way import labour, place_at, step_at, steps, stretch_at

WAYS = [
    [(1, 1)],
    [(9, 9)],
    [(4, 3)],
    [(3, 1), (2, 5)],
    [(5, 7), (5, 7)],
    [(9, 1), (1, 9), (4, 4)],
    [(2, 6), (3, 1), (7, 9), (1, 1)],
    [(1, 2), (3, 4), (5, 6), (7, 8), (9, 1)],
    [(1, 1), (1, 1), (1, 1), (1, 1), (1, 1), (1, 1)],
    [(9, 9), (9, 9), (9, 9), (9, 9), (9, 9), (9, 9)],
    [(2, 3), (1, 7), (9, 2), (4, 5), (3, 8), (6, 1)],
]
PARTS = (1, 2, 3, 7, 60)


def pair(worth):
    worth = Fraction(worth)
    return (worth.numerator, worth.denominator)


def all_labour(way):
    return sum(count * toil for count, toil in way)


def all_steps(way):
    return sum(count for count, toil in way)


def points(end):
    """All amounts from nought to end by each of PARTS."""
    return sorted({Fraction(num, den) for den in PARTS for num in range(end * den + 1)})


def outside(end):
    return [
        (-1, 1), (-1, 60), (-1, 10 ** 30), (-(10 ** 30), 1), (-(10 ** 30), 7),
        (end + 1, 1), pair(end + Fraction(1, 60)), pair(end + Fraction(1, 10 ** 30)),
        (10 ** 30, 1), (10 ** 30, 7),
    ]


def place_by_single_steps(way, step):
    """The place of a step, by walking one step after another."""
    toils = [toil for count, toil in way for each in range(count)]
    whole = step.numerator // step.denominator
    place = Fraction(sum(toils[:whole]))
    if step != whole:
        place += (step - whole) * toils[whole]
    return place


def borders(way):
    """The labour up to each stretch's beginning."""
    return [all_labour(way[:number]) for number in range(len(way))]


class SizeTest(unittest.TestCase):
    def test_ways_have_one_to_six_stretches(self):
        self.assertEqual({len(way) for way in WAYS}, {1, 2, 3, 4, 5, 6})

    def test_written_out(self):
        self.assertEqual(labour([(3, 1), (2, 5)]), 13)
        self.assertEqual(steps([(3, 1), (2, 5)]), 5)
        self.assertEqual(labour([(9, 9)] * 6), 486)
        self.assertEqual(steps([(9, 9)] * 6), 54)
        self.assertEqual(labour([(1, 1)]), 1)
        self.assertEqual(steps([(1, 1)]), 1)

    def test_all_pairs(self):
        for count in range(1, 10):
            for toil in range(1, 10):
                self.assertEqual(labour([(count, toil)]), count * toil)
                self.assertEqual(steps([(count, toil)]), count)

    def test_all_ways(self):
        for way in WAYS:
            self.assertEqual(labour(way), all_labour(way))
            self.assertEqual(steps(way), all_steps(way))
            self.assertIs(type(labour(way)), int)
            self.assertIs(type(steps(way)), int)


class BadWayTest(unittest.TestCase):
    def assertBadWay(self, way):
        before = list(way)
        for asked in (labour, steps):
            self.assertRaises(BadWay, asked, way)
        # Amounts that are on no way as well: BadWay goes ahead of BadPlace.
        for where in ((0, 1), (1, 2), (-1, 1), (-1, 60), (1000, 1), (10 ** 30, 1)):
            for asked in (place_at, step_at, stretch_at):
                self.assertRaises(BadWay, asked, way, where)
        self.assertEqual(way, before)

    def test_no_stretch(self):
        self.assertBadWay([])

    def test_seven_stretches_and_more(self):
        self.assertBadWay([(1, 1)] * 7)
        self.assertBadWay([(9, 9)] * 8)
        self.assertBadWay([(2, 3)] * 100)

    def test_a_bad_number_at_any_place_of_any_pair(self):
        for way in WAYS:
            for number, (count, toil) in enumerate(way):
                for bad in (0, -1, -9, 10, 11, 10 ** 9, -(10 ** 9), 10 ** 30, -(10 ** 30)):
                    for stretch in ((bad, toil), (count, bad), (bad, bad)):
                        self.assertBadWay(way[:number] + [stretch] + way[number + 1:])

    def test_true_and_false_are_no_numbers(self):
        for bad in (True, False):
            self.assertBadWay([(bad, 1)])
            self.assertBadWay([(1, bad)])
            self.assertBadWay([(2, 3), (4, bad)])

    def test_a_stretch_is_a_pair(self):
        self.assertBadWay([(1,)])
        self.assertBadWay([(1, 2, 3)])
        self.assertBadWay([(1, 2), ()])


class PlaceTest(unittest.TestCase):
    def test_written_out(self):
        way = [(3, 1), (2, 5)]
        self.assertEqual(place_at(way, (0, 1)), (0, 1))
        self.assertEqual(place_at(way, (5, 2)), (5, 2))
        self.assertEqual(place_at(way, (3, 1)), (3, 1))
        self.assertEqual(place_at(way, (7, 2)), (11, 2))
        self.assertEqual(place_at(way, (4, 1)), (8, 1))
        self.assertEqual(place_at(way, (5, 1)), (13, 1))
        self.assertEqual(step_at(way, (0, 1)), (0, 1))
        self.assertEqual(step_at(way, (5, 2)), (5, 2))
        self.assertEqual(step_at(way, (3, 1)), (3, 1))
        self.assertEqual(step_at(way, (11, 2)), (7, 2))
        self.assertEqual(step_at(way, (4, 1)), (16, 5))
        self.assertEqual(step_at(way, (13, 1)), (5, 1))

    def test_place_at_against_single_steps(self):
        for way in WAYS:
            for step in points(all_steps(way)):
                found = place_at(way, pair(step))
                self.assertIs(type(found), tuple)
                self.assertEqual(found, pair(place_by_single_steps(way, step)))

    def test_a_step_leads_to_its_place_and_back(self):
        for way in WAYS:
            for step in points(all_steps(way)):
                self.assertEqual(step_at(way, place_at(way, pair(step))), pair(step))

    def test_a_place_leads_to_its_step_and_back(self):
        for way in WAYS:
            for place in points(min(all_labour(way), 90)):
                found = step_at(way, pair(place))
                self.assertIs(type(found), tuple)
                self.assertEqual(place_at(way, found), pair(place))

    def test_ends_and_borders(self):
        for way in WAYS:
            for number in range(len(way) + 1):
                step, place = all_steps(way[:number]), all_labour(way[:number])
                self.assertEqual(place_at(way, (step, 1)), (place, 1))
                self.assertEqual(step_at(way, (place, 1)), (step, 1))

    def test_a_later_place_has_a_later_step(self):
        for way in WAYS:
            places = points(min(all_labour(way), 90)) + [Fraction(all_labour(way))]
            found = [Fraction(*step_at(way, pair(place))) for place in sorted(set(places))]
            for one, other in zip(found, found[1:]):
                self.assertLess(one, other)

    def test_amounts_of_many_figures(self):
        tiny = Fraction(1, 10 ** 99)
        way = [(3, 1), (2, 5)]
        self.assertEqual(place_at(way, pair(3 - tiny)), pair(3 - tiny))
        self.assertEqual(place_at(way, pair(3 + tiny)), pair(3 + 5 * tiny))
        self.assertEqual(step_at(way, pair(13 - tiny)), pair(5 - tiny / 5))

    def test_what_is_not_on_the_way(self):
        for way in WAYS:
            for step in outside(all_steps(way)):
                self.assertRaises(BadPlace, place_at, way, step)
            for place in outside(all_labour(way)):
                self.assertRaises(BadPlace, step_at, way, place)
                self.assertRaises(BadPlace, stretch_at, way, place)

    def test_steps_end_by_steps_and_places_by_labour(self):
        way = [(4, 3)]
        self.assertRaises(BadPlace, place_at, way, (12, 1))
        self.assertEqual(step_at(way, (12, 1)), (4, 1))


class StretchTest(unittest.TestCase):
    def test_written_out(self):
        way = [(3, 1), (2, 5)]
        found = [stretch_at(way, place) for place in ((0, 1), (2, 1), (5, 2), (3, 1), (7, 2), (12, 1), (13, 1))]
        self.assertEqual(found, [0, 0, 0, 1, 1, 1, 1])

    def test_a_border_lies_on_the_later_one(self):
        tiny = Fraction(1, 10 ** 30)
        for way in WAYS:
            for number, begin in enumerate(borders(way)):
                self.assertEqual(stretch_at(way, (begin, 1)), number)
                self.assertEqual(stretch_at(way, pair(begin + tiny)), number)
                if number:
                    self.assertEqual(stretch_at(way, pair(begin - tiny)), number - 1)

    def test_the_fire_lies_on_the_last_one(self):
        for way in WAYS:
            found = stretch_at(way, (all_labour(way), 1))
            self.assertEqual(found, len(way) - 1)
            self.assertIs(type(found), int)

    def test_all_places(self):
        for way in WAYS:
            begins = borders(way)
            for place in points(min(all_labour(way), 90)):
                known = max(number for number, begin in enumerate(begins) if begin <= place)
                self.assertEqual(stretch_at(way, pair(place)), known)


class HandedInTest(unittest.TestCase):
    def test_the_handed_list_stays_as_it_was(self):
        for way in WAYS:
            handed = list(way)
            labour(handed)
            steps(handed)
            for where in ((0, 1), (1, 2), (1, 1), (10 ** 30, 1), (-1, 1)):
                for asked in (place_at, step_at, stretch_at):
                    try:
                        asked(handed, where)
                    except BadPlace:
                        pass
            self.assertEqual(handed, way)
            self.assertIsNot(handed, way)


if __name__ == "__main__":
    unittest.main()
