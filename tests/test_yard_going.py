"""Yards that go on by hours and by pails, and their book [25], [10], [11]."""

import unittest

from cases import YardCase, crew, two_chains, yard_of
from pailchain.errors import BadCount, BadTime, NoChain, Nobody, TooLong
from pailchain.yard import Yard

BAD_HOURS = [
    (-1, 1), (-1, 60), (-(10 ** 9), 1), (61, 1), (3601, 60), (10 ** 9, 1), (1, 61), (7, 120), (1, 10 ** 9),
    (0, 0), (1, 0), (0, -1), (1, -1), (-1, -1), (-60, -60), (1, -60), (True, 1), (1, True), (False, 1),
]
BAD_COUNTS = [0, -1, -60, 61, 62, 10 ** 9, True, False]


def short_and_long():
    """In chain 0 (labour 1) al of pace 1 empties a pail an hour, in chain 1 (labour 60) bo of pace 12 one in 5."""
    return yard_of(
        ("lay", ((1, 1),)), ("lay", ((9, 6), (6, 1))), ("hire", "al", 1), ("hire", "bo", 12),
        ("send", "al", 0), ("send", "bo", 1),
    )


class ByHoursTest(YardCase):
    def test_all_chains_at_once(self):
        yard = two_chains()
        self.assertEqual(yard.do(("go", 1, 1)), [])
        self.assertEqual(yard.hour(), (1, 1))
        self.assertEqual([yard.chain(number).hour() for number in (0, 1)], [(1, 1), (1, 1)])
        self.assertEqual([yard.chain(0).place(name) for name in ("al", "bo")], [(1, 1), (3, 1)])
        self.assertEqual(yard.chain(1).place("cy"), (2, 1))
        self.assertEqual(yard.do(("go", 5, 1)), [
            ((3, 1), 1, "out", 0, "cy"),
            ((4, 1), 0, "out", 0, "bo"),
            ((6, 1), 1, "out", 1, "cy"),
        ])
        self.assertEqual(yard.hour(), (6, 1))

    def test_the_answer_is_a_list_of_tuples(self):
        rows = two_chains().do(("go", 12, 1))
        self.assertIs(type(rows), list)
        self.assertEqual({type(row) for row in rows}, {tuple})

    def test_at_the_same_hour_by_chains_else_as_they_came(self):
        # At hour 6 two pails of chain 0 are at the fire, where fay leaves, one of chain 1, where bo leaves, and three
        # of chain 2, where ed leaves.
        yard = yard_of(
            ("lay", ((6, 2),)), ("lay", ((6, 1),)), ("lay", ((6, 1),)),
            ("hire", "al", 2), ("hire", "bo", 1), ("hire", "cy", 1), ("hire", "di", 6), ("hire", "ed", 6),
            ("hire", "fay", 6),
            ("send", "cy", 2), ("send", "di", 2), ("send", "ed", 2), ("send", "bo", 1), ("send", "al", 0),
            ("send", "fay", 0), ("call", "fay"), ("call", "ed"), ("call", "bo"),
        )
        self.assertEqual(yard.do(("go", 6, 1)), [
            ((6, 1), 0, "out", 0, "al"),
            ((6, 1), 0, "left", "fay"),
            ((6, 1), 0, "out", 1, "al"),
            ((6, 1), 1, "out", 0, "bo"),
            ((6, 1), 1, "left", "bo"),
            ((6, 1), 2, "out", 0, "cy"),
            ((6, 1), 2, "left", "ed"),
            ((6, 1), 2, "out", 1, "cy"),
            ((6, 1), 2, "out", 2, "cy"),
        ])
        self.assertEqual(yard.pool(), ["bo", "ed", "fay"])

    def test_by_hours_not_by_the_numbers_of_their_pairs(self):
        # Hours 10/3, 20/3, 10 of chain 0, 7/2, 7, 21/2 of chain 1, 4, 8, 12 of chain 2.
        yard = yard_of(
            ("lay", ((5, 2),)), ("lay", ((7, 1),)), ("lay", ((4, 1),)), ("hire", "al", 3), ("hire", "bo", 2),
            ("hire", "cy", 1), ("send", "al", 0), ("send", "bo", 1), ("send", "cy", 2),
        )
        rows = yard.do(("go", 12, 1))
        self.assertEqual([row[:2] for row in rows], [
            ((10, 3), 0), ((7, 2), 1), ((4, 1), 2), ((20, 3), 0), ((7, 1), 1), ((8, 1), 2), ((10, 1), 0),
            ((21, 2), 1), ((12, 1), 2),
        ])

    def test_the_last_chain_may_come_first(self):
        yard = yard_of(
            ("lay", ((9, 1),)), ("lay", ((8, 1),)), ("lay", ((7, 1),)), ("lay", ((6, 1),)), *crew(1, "abcd"),
            *[("send", name, number) for number, name in enumerate("abcd")],
        )
        self.assertEqual([row[1] for row in yard.do(("go", 18, 1))], [3, 2, 1, 0, 3, 2, 1, 0, 3])

    def test_without_chains_and_without_hands_the_hours_go_by(self):
        yard = Yard()
        self.assertEqual(yard.do(("go", 7, 2)), [])
        self.assertEqual(yard.hour(), (7, 2))
        yard.do(("lay", ((1, 1),)))
        self.assertEqual(yard.do(("go", 60, 1)), [])
        self.assertEqual(yard.hour(), (127, 2))
        self.assertEqual(yard.chain(0).hour(), (127, 2))

    def test_no_hours(self):
        yard = two_chains()
        self.assertEqual(yard.do(("go", 0, 7)), [])
        self.assertEqual(yard.hour(), (0, 1))
        self.assertEqual(yard.deeds()[-1], ("go", 0, 7))

    def test_num_and_den_are_handed_on_as_the_amount_that_they_make(self):
        for num, den in ((6, 1), (12, 2), (360, 60), (6 * 61, 61), (6 * 10 ** 9, 10 ** 9)):
            yard = two_chains()
            self.assertEqual(len(yard.do(("go", num, den))), 3)
            self.assertEqual(yard.hour(), (6, 1))
            self.assertEqual(yard.deeds()[-1], ("go", num, den))

    def test_sixty_hours(self):
        for num, den in ((60, 1), (3600, 60), (3599, 60), (0, 1), (1, 60)):
            yard = yard_of(("go", num, den))
            self.assertEqual(yard.hour()[0] * den, num * yard.hour()[1])

    def test_bad_time(self):
        full = yard_of(("lay", ((1, 1),)), ("hire", "al", 12), ("send", "al", 0))
        for yard in (Yard(), two_chains(), full):
            for num, den in BAD_HOURS:
                self.assertYardRefused(BadTime, yard, "go", num, den)

    def test_too_long_of_any_chain(self):
        for quick in range(3):
            yard = yard_of(*[("lay", ((9, 9),))] * quick, ("lay", ((1, 1),)), *[("lay", ((9, 9),))] * (2 - quick),
                           *crew(12, "abc"))
            for number, name in enumerate("abc"):
                yard.do(("send", name, number))
            yard.do(("call", "abc"[quick - 1]))
            self.assertYardRefused(TooLong, yard, "go", 61, 12)
            self.assertYardRefused(TooLong, yard, "go", 60, 1)
            self.assertEqual(len(yard.do(("go", 5, 1))), 60)

    def test_sixty_pails_of_each_chain(self):
        yard = yard_of(("lay", ((1, 1),)), ("lay", ((1, 1),)), *crew(1, "ab"), ("send", "a", 0), ("send", "b", 1))
        self.assertEqual(len(yard.do(("go", 60, 1))), 120)
        yard.do(("pace", "b", 2))
        self.assertYardRefused(TooLong, yard, "go", 61, 2)
        self.assertEqual(len(yard.do(("go", 30, 1))), 90)


class ByPailsTest(YardCase):
    def test_the_others_go_on_for_as_long(self):
        yard = two_chains()
        self.assertEqual(yard.do(("outs", 0, 1)), [((3, 1), 1, "out", 0, "cy"), ((4, 1), 0, "out", 0, "bo")])
        self.assertEqual(yard.hour(), (4, 1))
        self.assertEqual([yard.chain(number).hour() for number in (0, 1)], [(4, 1), (4, 1)])
        self.assertEqual(yard.chain(1).place("cy"), (2, 1))
        self.assertEqual(yard.do(("outs", 1, 2)), [
            ((6, 1), 1, "out", 1, "cy"), ((20, 3), 0, "out", 1, "bo"), ((9, 1), 1, "out", 2, "cy"),
        ])
        self.assertEqual(yard.hour(), (9, 1))

    def test_what_the_others_empty_at_that_moment_is_told_too(self):
        yard = short_and_long()
        rows = yard.do(("outs", 0, 10))
        self.assertEqual([row for row in rows if row[1] == 1], [
            ((5, 1), 1, "out", 0, "bo"), ((10, 1), 1, "out", 1, "bo"),
        ])
        self.assertEqual(rows[-2:], [((10, 1), 0, "out", 9, "al"), ((10, 1), 1, "out", 1, "bo")])
        rows = yard.do(("outs", 1, 1))
        self.assertEqual(rows[-2:], [((15, 1), 0, "out", 14, "al"), ((15, 1), 1, "out", 2, "bo")])
        self.assertEqual(len(rows), 6)

    def test_and_all_others_of_its_own_at_that_moment(self):
        yard = yard_of(("lay", ((1, 1),)), *crew(1, "abcdefgh"), *[("send", name, 0) for name in "abcdefgh"])
        self.assertEqual(len(yard.do(("outs", 0, 1))), 8)
        # Its own pails beyond 60 at that moment are not too long.
        self.assertEqual(len(yard.do(("outs", 0, 60))), 64)
        self.assertEqual(yard.hour(), (9, 1))

    def test_longer_than_sixty_hours(self):
        yard = yard_of(
            ("lay", ((9, 1),)), ("lay", ((9, 9),) * 6), ("lay", ((1, 1),)), *crew(1, "ab"), ("send", "a", 0),
            ("send", "b", 1),
        )
        rows = yard.do(("outs", 0, 60))
        self.assertEqual(len(rows), 61)
        self.assertEqual([row for row in rows if row[1] == 1], [((486, 1), 1, "out", 0, "b")])
        self.assertEqual(yard.hour(), (540, 1))
        self.assertEqual([yard.chain(number).hour() for number in range(3)], [(540, 1)] * 3)
        self.assertEqual(yard.chain(1).place("b"), (54, 1))

    def test_hours_whose_den_is_above_sixty(self):
        yard = yard_of(
            ("lay", ((1, 1),)), ("lay", ((9, 1),)), ("hire", "al", 11), ("hire", "bo", 1), ("send", "al", 0),
            ("send", "bo", 1), ("go", 1, 59),
        )
        self.assertEqual(yard.do(("outs", 0, 1)), [((1, 11), 0, "out", 0, "al")])
        self.assertEqual(yard.chain(1).place("bo"), (1, 11))
        self.assertEqual(yard.hour(), (1, 11))

    def test_the_last_hand_leaves_ahead_of_that(self):
        yard = two_chains()
        yard.do(("call", "cy"))
        self.assertEqual(yard.do(("outs", 1, 60)), [((3, 1), 1, "out", 0, "cy"), ((3, 1), 1, "left", "cy")])
        self.assertEqual(yard.hour(), (3, 1))
        self.assertEqual(yard.chain(0).hour(), (3, 1))
        self.assertEqual(yard.chain(0).place("bo"), (9, 1))
        self.assertYardRefused(Nobody, yard, "outs", 1, 1)

    def test_who_leaves_another_chain(self):
        yard = two_chains()
        yard.do(("call", "cy"))
        self.assertEqual(yard.do(("outs", 0, 1)), [
            ((3, 1), 1, "out", 0, "cy"), ((3, 1), 1, "left", "cy"), ((4, 1), 0, "out", 0, "bo"),
        ])
        self.assertEqual(yard.pool(), ["cy", "di", "ed"])
        self.assertEqual(yard.chain(1).hour(), (4, 1))
        self.assertEqual(yard.chain(1).ledger("cy"), ((3, 1), (6, 1), (0, 1)))

    def test_refused_in_the_order_that_is_told(self):
        for number in (-1, 2, 3, 4, 10 ** 9, True, False):
            for count in [1] + BAD_COUNTS:
                self.assertYardRefused(NoChain, two_chains(), "outs", number, count)
        self.assertYardRefused(NoChain, Yard(), "outs", 0, 0)
        empty = yard_of(("lay", ((1, 1),)))
        for yard in (two_chains(), empty):
            for count in BAD_COUNTS:
                self.assertYardRefused(BadCount, yard, "outs", 0, count)
        for count in (1, 60):
            self.assertYardRefused(Nobody, empty, "outs", 0, count)

    def test_too_long_of_another_chain(self):
        yard = short_and_long()
        self.assertYardRefused(TooLong, yard, "outs", 1, 13)
        self.assertYardRefused(TooLong, yard, "outs", 1, 60)
        self.assertEqual(len(yard.do(("outs", 1, 12))), 72)
        self.assertEqual(yard.hour(), (60, 1))
        # Chain 0 itself may empty so many.
        self.assertEqual(len(yard.do(("outs", 0, 60))), 72)

    def test_the_other_refusals_go_ahead_of_too_long(self):
        yard = short_and_long()
        yard.do(("lay", ((1, 1),)))
        self.assertYardRefused(BadCount, yard, "outs", 1, 61)
        self.assertYardRefused(Nobody, yard, "outs", 2, 60)
        self.assertYardRefused(NoChain, yard, "outs", 3, 60)

    def test_too_long_of_a_chain_ahead_and_behind(self):
        for slow in range(3):
            yard = yard_of(*[("lay", ((9, 9),))] * 3, *crew(12, "abc"))
            for number, name in enumerate("abc"):
                yard.do(("send", name, number))
            yard.do(("pace", "abc"[slow], 1))
            yard.do(("call", "abc"[slow - 1]))
            # Each of the others empties 12 pails while the slow one empties one; one of them leaves at its first.
            self.assertYardRefused(TooLong, yard, "outs", slow, 6)
            self.assertEqual(len(yard.do(("outs", slow, 5))), 5 + 60 + 2)


class BookTest(YardCase):
    def test_all_rows_that_were_answered(self):
        yard = two_chains()
        self.assertEqual(yard.book(), [])
        rows = yard.do(("go", 4, 1))
        self.assertEqual(len(rows), 2)
        self.assertEqual(yard.book(), rows)
        rows = rows + yard.do(("outs", 1, 3))
        self.assertEqual(yard.book(), rows)
        yard.do(("call", "al"))
        yard.do(("lay", ((1, 1),)))
        self.assertEqual(yard.do(("go", 0, 1)), [])
        self.assertEqual(yard.book(), rows)
        rows = rows + yard.do(("go", 9, 2))
        self.assertEqual(yard.book(), rows)
        self.assertEqual(rows[7:], [
            ((344, 27), 0, "out", 3, "bo"), ((344, 27), 0, "left", "al"), ((15, 1), 1, "out", 4, "cy"),
            ((1276, 81), 0, "out", 4, "bo"),
        ])
        self.assertIs(type(yard.book()), list)

    def test_what_is_refused_is_not_in_it(self):
        yard = short_and_long()
        yard.do(("go", 3, 1))
        before = yard.book()
        self.assertYardRefused(TooLong, yard, "outs", 1, 60)
        self.assertYardRefused(BadTime, yard, "go", 61, 1)
        self.assertEqual(yard.book(), before)


if __name__ == "__main__":
    unittest.main()
