"""Chains that go on: turns, hours, counts, rows [7], [10], [11]."""

import unittest

from cases import RefusalCase, lone, slow_ahead, three
from model import standing
from pailchain.chain import Chain
from pailchain.errors import BadCount, BadTime, Nobody, TooLong


def spots(chain):
    return [(name, chain.pail(name), chain.place(name)) for name in chain.hands()]


class TurnTest(unittest.TestCase):
    def test_nobody_called_away(self):
        chain = three()
        self.assertEqual(chain.go((4, 1)), [((4, 1), "out", 0, "c")])
        self.assertEqual(spots(chain), [("a", 3, (0, 1)), ("b", 2, (4, 1)), ("c", 1, (8, 1))])
        self.assertEqual(chain.pails(), 4)
        self.assertEqual(chain.emptied(), [0])

    def test_one_hand_alone(self):
        chain = lone(6, 2)
        self.assertEqual(chain.go((3, 1)), [((3, 1), "out", 0, "a")])
        self.assertEqual(spots(chain), [("a", 1, (0, 1))])
        self.assertEqual(chain.go((13, 2)), [((6, 1), "out", 1, "a"), ((9, 1), "out", 2, "a")])
        self.assertEqual(spots(chain), [("a", 3, (1, 1))])

    def test_the_first_one_leaves(self):
        chain = three()
        chain.call("a")
        self.assertEqual(chain.go((4, 1)), [((4, 1), "out", 0, "c"), ((4, 1), "left", "a")])
        self.assertEqual(spots(chain), [("b", 2, (4, 1)), ("c", 1, (8, 1))])
        self.assertEqual(chain.pails(), 3)
        self.assertEqual(chain.called(), [])

    def test_one_between_leaves(self):
        chain = three()
        chain.call("b")
        self.assertEqual(chain.go((4, 1)), [((4, 1), "out", 0, "c"), ((4, 1), "left", "b")])
        self.assertEqual(spots(chain), [("a", 2, (4, 1)), ("c", 1, (8, 1))])
        self.assertEqual(chain.pails(), 3)

    def test_the_last_one_leaves(self):
        chain = three()
        chain.call("c")
        self.assertEqual(chain.go((4, 1)), [((4, 1), "out", 0, "c"), ((4, 1), "left", "c")])
        self.assertEqual(spots(chain), [("a", 2, (4, 1)), ("b", 1, (8, 1))])
        self.assertEqual(chain.pails(), 3)

    def test_several_leave_the_one_nearest_to_the_fire_first(self):
        chain = three()
        chain.call("a")
        chain.call("c")
        self.assertEqual(chain.outs(1), [((4, 1), "out", 0, "c"), ((4, 1), "left", "c")])
        self.assertEqual(chain.called(), ["a"])
        self.assertEqual(chain.outs(1), [((6, 1), "out", 1, "b"), ((6, 1), "left", "a")])
        self.assertEqual(spots(chain), [("b", 2, (6, 1))])
        self.assertEqual(chain.outs(1), [((9, 1), "out", 2, "b")])
        self.assertEqual(spots(chain), [("b", 3, (0, 1))])

    def test_two_called_away_the_later_called_one_nearer(self):
        chain = three()
        chain.call("b")
        chain.call("a")
        self.assertEqual(chain.outs(1)[1:], [((4, 1), "left", "b")])
        self.assertEqual(spots(chain), [("a", 2, (4, 1)), ("c", 1, (8, 1))])
        chain = three()
        chain.call("a")
        chain.call("b")
        self.assertEqual(chain.outs(1)[1:], [((4, 1), "left", "b")])

    def test_all_leave(self):
        chain = three()
        for name in "abc":
            chain.call(name)
        self.assertEqual(chain.go((20, 1)), [
            ((4, 1), "out", 0, "c"), ((4, 1), "left", "c"),
            ((6, 1), "out", 1, "b"), ((6, 1), "left", "b"),
            ((12, 1), "out", 2, "a"), ((12, 1), "left", "a"),
        ])
        self.assertEqual(chain.hour(), (20, 1))
        self.assertEqual(chain.hands(), [])
        self.assertEqual(chain.called(), [])
        self.assertIsNone(chain.next_out())
        self.assertEqual((chain.pails(), chain.emptied()), (3, [0, 1, 2]))

    def test_two_turns_at_one_moment(self):
        chain = slow_ahead()
        self.assertEqual(chain.go((3, 1)), [((3, 1), "out", 0, "z"), ((3, 1), "out", 1, "z")])
        self.assertEqual(spots(chain), [("a", 3, (0, 1)), ("z", 2, (0, 1))])
        self.assertEqual(chain.emptied(), [0, 1])

    def test_eight_turns_at_one_moment(self):
        chain = Chain([(1, 1)])
        for name in "abcdefgh":
            chain.enter(name, 1)
        self.assertEqual(chain.outs(1), [((1, 1), "out", number, "a") for number in range(8)])
        self.assertEqual(spots(chain), [(name, 15 - at, (0, 1)) for at, name in enumerate("hgfedcba")])

    def test_one_leaves_where_two_turns_are_at_one_moment(self):
        chain = slow_ahead()
        chain.call("a")
        self.assertEqual(chain.go((3, 1)), [
            ((3, 1), "out", 0, "z"), ((3, 1), "left", "a"), ((3, 1), "out", 1, "z"),
        ])
        self.assertEqual(spots(chain), [("z", 2, (0, 1))])
        chain = slow_ahead()
        chain.call("z")
        self.assertEqual(chain.go((3, 1)), [
            ((3, 1), "out", 0, "z"), ((3, 1), "left", "z"), ((3, 1), "out", 1, "a"),
        ])
        self.assertEqual(spots(chain), [("a", 2, (0, 1))])

    def test_two_leave_at_one_moment(self):
        chain = slow_ahead()
        chain.call("a")
        chain.call("z")
        self.assertEqual(chain.outs(1), [
            ((3, 1), "out", 0, "z"), ((3, 1), "left", "z"), ((3, 1), "out", 1, "a"), ((3, 1), "left", "a"),
        ])
        self.assertEqual(spots(chain), [])
        self.assertEqual(chain.pails(), 2)

    def test_asked_at_the_moment_of_a_turn(self):
        chain = three()
        chain.go((4, 1))
        self.assertEqual(chain.hour(), (4, 1))
        self.assertEqual(chain.place("c"), (8, 1))
        self.assertEqual(chain.pail("c"), 1)
        self.assertEqual(chain.next_out(), (4, 3))
        self.assertEqual(chain.emptied(), [0])
        self.assertEqual(chain.pails(), 4)
        self.assertEqual(chain.story(0), [("c", (0, 1), (12, 1))])
        self.assertEqual(chain.story(1), [("b", (0, 1), (8, 1))])
        self.assertEqual(chain.story(3), [])


class GoTest(RefusalCase):
    def test_no_hours(self):
        chain = three()
        for hours in ((0, 1), (2, 1)):
            chain.go(hours)
            before = standing(chain)
            self.assertEqual(chain.go((0, 1)), [])
            self.assertEqual(standing(chain), before)

    def test_hours_between_turns(self):
        chain = three()
        self.assertEqual(chain.go((7, 2)), [])
        self.assertEqual(spots(chain), [("a", 2, (7, 2)), ("b", 1, (7, 1)), ("c", 0, (21, 2))])
        self.assertEqual(chain.hour(), (7, 2))
        self.assertEqual(chain.next_out(), (1, 2))

    def test_hours_that_end_just_at_a_meeting(self):
        chain = Chain([(6, 2)])
        chain.enter("z", 1)
        self.assertEqual(chain.go((2, 1)), [])
        chain.enter("a", 3)
        self.assertEqual(chain.go((1, 1)), [])
        self.assertEqual(spots(chain), [("a", 1, (3, 1)), ("z", 0, (3, 1))])
        self.assertEqual(chain.ledger("a"), ((1, 1), (3, 1), (0, 1)))
        self.assertEqual(chain.go((1, 1)), [])
        self.assertEqual(spots(chain), [("a", 1, (4, 1)), ("z", 0, (4, 1))])
        self.assertEqual(chain.ledger("a"), ((2, 1), (4, 1), (2, 1)))
        self.assertEqual(chain.ledger("z"), ((4, 1), (4, 1), (0, 1)))

    def test_hours_in_parts_come_to_the_same(self):
        whole = three()
        rows = whole.go((50, 1))
        for num, den, times in ((1, 60, 3000), (25, 1, 2), (5, 7, 70), (1, 2, 100), (50, 60, 60)):
            parts = three()
            found = []
            for each in range(times):
                found += parts.go((num, den))
            self.assertEqual(found, rows)
            self.assertEqual(standing(parts), standing(whole))

    def test_without_hands_the_hours_go_by(self):
        chain = Chain([(1, 1)])
        self.assertEqual(chain.go((5, 2)), [])
        self.assertEqual(chain.hour(), (5, 2))
        self.assertEqual(chain.go((60, 1)), [])
        self.assertEqual(chain.hour(), (125, 2))
        chain.enter("a", 1)
        self.assertEqual(chain.ledger("a"), ((0, 1), (0, 1), (0, 1)))
        self.assertEqual(chain.outs(1), [((127, 2), "out", 0, "a")])

    def test_the_last_hand_leaves_on_the_way(self):
        chain = lone(6, 2)
        chain.call("a")
        self.assertEqual(chain.go((10, 1)), [((3, 1), "out", 0, "a"), ((3, 1), "left", "a")])
        self.assertEqual(chain.hour(), (10, 1))
        self.assertEqual(chain.ledger("a"), ((3, 1), (6, 1), (0, 1)))
        self.assertEqual(chain.go((1, 3)), [])
        self.assertEqual(chain.hour(), (31, 3))

    def test_bad_time(self):
        for chain in (Chain([(1, 1)]), three(), lone(1, 12)):
            for hours in ((-1, 1), (-1, 60), (-7, 2), (61, 1), (3601, 60), (121, 2), (1, 61), (1, 3600), (59, 61),
                          (-1, 61), (10 ** 30, 1), (1, 10 ** 30), (-(10 ** 30), 7)):
                self.assertRefused(BadTime, chain, "go", hours)

    def test_just_sixty_hours_and_just_sixty_parts(self):
        chain = three()
        chain.go((1, 60))
        self.assertEqual(chain.place("c"), (1, 20))
        chain.go((3599, 60))
        self.assertEqual(chain.hour(), (60, 1))
        other = three()
        other.go((60, 1))
        self.assertEqual(standing(other), standing(chain))

    def test_just_sixty_pails_and_one_more(self):
        chain = lone(1, 12)
        rows = chain.twin().go((5, 1))
        self.assertEqual([row[2] for row in rows], list(range(60)))
        self.assertEqual(rows[-1], ((5, 1), "out", 59, "a"))
        self.assertEqual(len(chain.twin().go((304, 60))), 60)
        self.assertRefused(TooLong, chain, "go", (61, 12))
        self.assertRefused(TooLong, chain, "go", (60, 1))
        # The limit is one of each going on, not of all together.
        self.assertEqual(len(chain.go((5, 1))), 60)
        self.assertEqual(len(chain.go((5, 1))), 60)
        self.assertRefused(TooLong, chain, "go", (61, 12))
        self.assertEqual(len(chain.go((5, 1))), 60)

    def test_sixty_pails_are_passed_at_one_moment(self):
        chain = Chain([(1, 1)])
        for name in "abcdefgh":
            chain.enter(name, 1)
        self.assertEqual(len(chain.twin().go((7, 1))), 56)
        self.assertRefused(TooLong, chain, "go", (8, 1))
        self.assertEqual(len(chain.go((479, 60))), 56)

    def test_who_left_counts_no_pail(self):
        chain = lone(1, 12)
        chain.enter("b", 12)
        chain.enter("c", 12)
        chain.call("c")
        rows = chain.go((29, 12))
        self.assertEqual(len([row for row in rows if row[1] == "out"]), 59)
        self.assertEqual(len(rows), 60)
        chain.call("b")
        chain.go((1, 12))
        self.assertEqual(len(chain.go((60, 12))), 60)
        self.assertRefused(TooLong, chain, "go", (61, 12))

    def test_the_last_hand_leaves_ahead_of_too_many(self):
        chain = lone(1, 12)
        chain.call("a")
        self.assertEqual(len(chain.go((60, 1))), 2)


class OutsTest(RefusalCase):
    def test_till_so_many(self):
        chain = three()
        self.assertEqual(chain.outs(1), [((4, 1), "out", 0, "c")])
        self.assertEqual(chain.hour(), (4, 1))
        self.assertEqual(chain.outs(2), [((16, 3), "out", 1, "c"), ((64, 9), "out", 2, "c")])
        self.assertEqual(chain.hour(), (64, 9))
        self.assertEqual(chain.emptied(), [0, 1, 2])

    def test_as_going_on_for_these_hours(self):
        for count in range(1, 9):
            chain, other = slow_ahead(), slow_ahead()
            rows = chain.outs(count)
            self.assertEqual(other.go(chain.hour()), rows)
            self.assertEqual(standing(other), standing(chain))

    def test_all_others_that_are_emptied_at_that_moment(self):
        chain = slow_ahead()
        self.assertEqual(chain.outs(1), [((3, 1), "out", 0, "z"), ((3, 1), "out", 1, "z")])
        self.assertEqual(chain.outs(3), [((at, 1), "out", pail, "z") for at, pail in ((6, 2), (6, 3), (9, 4), (9, 5))])
        self.assertEqual(chain.outs(2), [((12, 1), "out", 6, "z"), ((12, 1), "out", 7, "z")])

    def test_sixty_and_all_others_at_that_moment(self):
        chain = Chain([(1, 1)])
        for name in "abcdefgh":
            chain.enter(name, 1)
        self.assertEqual(len(chain.outs(60)), 64)
        self.assertEqual(chain.hour(), (8, 1))

    def test_longer_than_sixty_hours(self):
        chain = lone(9, 1)
        self.assertEqual(len(chain.outs(60)), 60)
        self.assertEqual(chain.hour(), (540, 1))

    def test_the_last_hand_leaves_ahead_of_that(self):
        chain = three()
        for name in "abc":
            chain.call(name)
        rows = chain.outs(60)
        self.assertEqual([row[1] for row in rows], ["out", "left"] * 3)
        self.assertEqual(chain.hour(), (12, 1))
        self.assertRefused(Nobody, chain, "outs", 1)

    def test_refused(self):
        for chain in (Chain([(1, 1)]), three()):
            for count in (0, -1, -60, 61, 62, 10 ** 9, -(10 ** 9), 10 ** 30, True, False):
                self.assertRefused(BadCount, chain, "outs", count)
        for count in (1, 2, 60):
            self.assertRefused(Nobody, Chain([(1, 1)]), "outs", count)


class NextOutTest(unittest.TestCase):
    def test_it_is_the_hours_till_the_next_row(self):
        for chain in (three(), slow_ahead(), lone(9, 7)):
            for each in range(12):
                hours, before = chain.next_out(), chain.hour()
                rows = chain.twin().outs(1)
                self.assertEqual(chain.twin().go(hours) if hours[1] <= 60 else rows, rows)
                self.assertEqual(rows[0][0][0] * before[1] * hours[1],
                                 (before[0] * hours[1] + hours[0] * before[1]) * rows[0][0][1])
                chain.go((3, 4))

    def test_written_out(self):
        chain = three()
        self.assertEqual(chain.next_out(), (4, 1))
        chain.go((1, 2))
        self.assertEqual(chain.next_out(), (7, 2))
        chain.set_pace("c", 1)
        self.assertEqual(chain.next_out(), (21, 2))
        chain.swap("b")
        self.assertEqual(chain.next_out(), (21, 4))
        chain.call("b")
        self.assertEqual(chain.next_out(), (21, 4))


if __name__ == "__main__":
    unittest.main()
