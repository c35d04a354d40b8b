import unittest
from fractions import Fraction
from math import gcd

from pailchain.amounts import amount, below, minus, over, plus, shown, times

# Numbers of 1, 2, 9, 33, 90, 99 and 100 figures; several share divisors.
SIZES = [
    1, 2, 3, 4, 6, 7, 9, 12, 60,
    123456789, 987654321, 10 ** 8,
    int("3" * 33), 2 ** 109, int("7" * 33),
    int("9" * 90), int("12" * 45), 10 ** 89,
    int("8" * 99), int("9" * 100), int("1" * 100), 2 ** 332, 10 ** 99,
]
NUMS = [0] + SIZES + [-size for size in SIZES]
DENS = SIZES + [-size for size in SIZES]
SOME = sorted({Fraction(num, den) for num in NUMS[::3] for den in SIZES[::2]})


def pair(worth):
    return (worth.numerator, worth.denominator)


class AmountCase(unittest.TestCase):
    def assertAmount(self, found, worth):
        self.assertIs(type(found), tuple)
        self.assertEqual(len(found), 2)
        num, den = found
        self.assertIs(type(num), int)
        self.assertIs(type(den), int)
        self.assertGreaterEqual(den, 1)
        self.assertEqual(gcd(num, den), 1)
        self.assertEqual(found, pair(Fraction(worth)))


class MakingTest(AmountCase):
    def test_sizes_reach_from_one_to_a_hundred_figures(self):
        figures = {len(str(size)) for size in SIZES}
        self.assertLessEqual({1, 9, 33, 90, 100}, figures)
        self.assertEqual(max(figures), 100)

    def test_written_out(self):
        self.assertEqual(amount(7, 2), (7, 2))
        self.assertEqual(amount(6, 4), (3, 2))
        self.assertEqual(amount(-6, 4), (-3, 2))
        self.assertEqual(amount(6, -4), (-3, 2))
        self.assertEqual(amount(-6, -4), (3, 2))
        self.assertEqual(amount(12, 4), (3, 1))
        self.assertEqual(amount(4, 12), (1, 3))
        self.assertEqual(amount(-1, 1), (-1, 1))

    def test_nought_has_one_form(self):
        for den in DENS:
            self.assertAmount(amount(0, den), 0)
            self.assertEqual(amount(0, den), (0, 1))

    def test_all_sizes_and_signs(self):
        for num in NUMS:
            for den in DENS:
                self.assertAmount(amount(num, den), Fraction(num, den))

    def test_common_divisors_go(self):
        for shared in (2, 3, 10, 9973, 10 ** 45):
            for num, den in ((7, 2), (-3, 1), (1, 9), (0, 1), (10 ** 20 + 1, 10 ** 20)):
                self.assertEqual(amount(num * shared, den * shared), (num, den))
                self.assertEqual(amount(num * shared, -den * shared), (-num, den))

    def test_an_amount_made_again_is_the_same(self):
        for worth in SOME:
            self.assertEqual(amount(*pair(worth)), pair(worth))


class ReckoningTest(AmountCase):
    def test_written_out(self):
        self.assertEqual(plus((1, 2), (1, 3)), (5, 6))
        self.assertEqual(plus((1, 6), (1, 3)), (1, 2))
        self.assertEqual(plus((1, 2), (-1, 2)), (0, 1))
        self.assertEqual(minus((1, 2), (1, 3)), (1, 6))
        self.assertEqual(minus((1, 3), (1, 2)), (-1, 6))
        self.assertEqual(minus((3, 1), (3, 1)), (0, 1))
        self.assertEqual(times((2, 3), (3, 4)), (1, 2))
        self.assertEqual(times((-2, 3), (3, 2)), (-1, 1))
        self.assertEqual(times((5, 7), (0, 1)), (0, 1))
        self.assertEqual(over((1, 2), (1, 4)), (2, 1))
        self.assertEqual(over((1, 2), (-3, 4)), (-2, 3))
        self.assertEqual(over((-1, 2), (-3, 4)), (2, 3))
        self.assertEqual(over((0, 1), (-3, 4)), (0, 1))

    def test_against_fractions(self):
        for one in SOME:
            for other in SOME:
                self.assertAmount(plus(pair(one), pair(other)), one + other)
                self.assertAmount(minus(pair(one), pair(other)), one - other)
                self.assertAmount(times(pair(one), pair(other)), one * other)
                if other != 0:
                    self.assertAmount(over(pair(one), pair(other)), one / other)

    def test_there_and_back_again(self):
        for one in SOME[::2]:
            for other in SOME[::3]:
                first, second = pair(one), pair(other)
                self.assertEqual(minus(plus(first, second), second), first)
                self.assertEqual(plus(minus(first, second), second), first)
                if other != 0:
                    self.assertEqual(over(times(first, second), second), first)
                    self.assertEqual(times(over(first, second), second), first)


class OrderTest(unittest.TestCase):
    def test_written_out(self):
        self.assertIs(below((1, 3), (1, 2)), True)
        self.assertIs(below((1, 2), (1, 3)), False)
        self.assertIs(below((-1, 2), (-1, 3)), True)
        self.assertIs(below((-1, 3), (-1, 2)), False)
        self.assertIs(below((-5, 1), (0, 1)), True)
        self.assertIs(below((0, 1), (-5, 1)), False)

    def test_equal_amounts(self):
        for worth in SOME:
            self.assertIs(below(pair(worth), pair(worth)), False)

    def test_both_ways(self):
        for one in SOME:
            for other in SOME:
                self.assertIs(below(pair(one), pair(other)), one < other)

    def test_a_small_part_apart(self):
        for worth in SOME[::2]:
            for small in (Fraction(1, 10 ** 9), Fraction(1, 10 ** 99)):
                near = pair(worth + small)
                self.assertIs(below(pair(worth), near), True)
                self.assertIs(below(near, pair(worth)), False)


class ShownTest(unittest.TestCase):
    def test_whole(self):
        for whole in NUMS:
            self.assertEqual(shown((whole, 1)), str(whole))
        self.assertEqual(shown((0, 1)), "0")
        self.assertEqual(shown((-3, 1)), "-3")

    def test_parts(self):
        self.assertEqual(shown((7, 2)), "7/2")
        self.assertEqual(shown((1, 60)), "1/60")
        self.assertEqual(shown((-7, 2)), "-7/2")
        self.assertEqual(shown((-1, 60)), "-1/60")

    def test_great_parts(self):
        num, den = int("9" * 100), 10 ** 99
        self.assertEqual(shown((num, den)), "9" * 100 + "/1" + "0" * 99)
        self.assertEqual(shown((-num, den)), "-" + "9" * 100 + "/1" + "0" * 99)


if __name__ == "__main__":
    unittest.main()
