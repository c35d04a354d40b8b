"""Yards: deeds taken back and done again, twins, and that nothing told or handed in leads back in [26], [2]."""

import unittest

from cases import YardCase, crew, two_chains, yard_of
from model import standing
from pailchain.errors import (
    BadPace, BadTime, BadWay, Busy, NoChain, NoHand, NoNext, NotCalled, NothingLeft, PailError, Taken, TooLong,
)
from pailchain.yard import Yard
from yard_model import undone, yard_standing

# Each of the ten deeds, in an order in which all can be done.
TEN = [
    ("lay", ((4, 3),)),
    ("hire", "al", 1),
    ("hire", "bo", 3),
    ("hire", "cy", 5),
    ("dismiss", "cy"),
    ("send", "bo", 0),
    ("send", "al", 0),
    ("go", 2, 1),
    ("call", "al"),
    ("stay", "al"),
    ("swap", "al"),
    ("pace", "bo", 12),
    ("call", "bo"),
    ("outs", 0, 1),
    ("go", 45, 6),
]
# One of each kind that can be done behind TEN; the chain is one hand's then, and bo is in the pool.
MORE = [
    ("lay", ((1, 1), (2, 2))),
    ("hire", "di", 7),
    ("dismiss", "bo"),
    ("send", "bo", 0),
    ("call", "al"),
    ("pace", "al", 9),
    ("pace", "bo", 9),
    ("go", 1, 2),
    ("outs", 0, 3),
]


def steps(deeds):
    """How the yard stands ahead of each deed, and behind the last one."""
    yard = Yard()
    found = [yard_standing(yard)]
    for deed in deeds:
        yard.do(deed)
        found.append(yard_standing(yard))
    return found


def without_undone(found):
    return {part: found[part] for part in found if part != "undone"}


class BackTest(YardCase):
    def assertNothingLeft(self, deed):
        with self.assertRaises(NothingLeft) as caught:
            deed()
        self.assertIs(type(caught.exception), NothingLeft)

    def test_all_ten_are_tried(self):
        self.assertEqual(len({deed[0] for deed in TEN}), 10)

    def test_down_to_the_beginning_and_up_again(self):
        known = steps(TEN)
        yard = yard_of(*TEN)
        for each in range(2):
            for at in reversed(range(len(TEN))):
                self.assertEqual(yard.undo(), TEN[at])
                self.assertEqual(without_undone(yard_standing(yard)), without_undone(known[at]))
                self.assertEqual(undone(yard), TEN[at:])
            self.assertNothingLeft(yard.undo)
            self.assertEqual(without_undone(yard_standing(yard)), without_undone(known[0]))
            self.assertEqual(undone(yard), TEN)
            for at in range(len(TEN)):
                self.assertEqual(yard.redo(), TEN[at])
                self.assertEqual(without_undone(yard_standing(yard)), without_undone(known[at + 1]))
                self.assertEqual(undone(yard), TEN[at + 1:])
            self.assertNothingLeft(yard.redo)
            self.assertEqual(yard_standing(yard), known[-1])

    def test_each_kind_of_deed_changes_something_that_comes_back(self):
        yard = yard_of(*TEN)
        before = yard_standing(yard)
        for deed in MORE:
            yard.do(deed)
            behind = yard_standing(yard)
            self.assertNotEqual(without_undone(behind), without_undone(before))
            self.assertEqual(yard.undo(), deed)
            self.assertEqual(without_undone(yard_standing(yard)), without_undone(before))
            self.assertEqual(yard.redo(), deed)
            self.assertEqual(yard_standing(yard), behind)
            yard.undo()

    def test_a_new_yard_has_nothing_left(self):
        yard = Yard()
        self.assertNothingLeft(yard.undo)
        self.assertNothingLeft(yard.redo)
        yard.do(("go", 1, 1))
        self.assertNothingLeft(yard.redo)
        yard.undo()
        self.assertNothingLeft(yard.undo)
        yard.redo()
        self.assertNothingLeft(yard.redo)
        self.assertEqual(yard.hour(), (1, 1))

    def test_hour_book_ledgers_and_stories(self):
        yard = two_chains()
        yard.do(("go", 3, 1))
        yard.do(("outs", 0, 5))
        ledgers = yard.chain(0).ledger("bo"), yard.chain(1).ledger("cy")
        stories = [yard.chain(0).story(pail) for pail in range(yard.chain(0).pails())]
        book, hour = yard.book(), yard.hour()
        yard.undo()
        self.assertEqual(yard.hour(), (3, 1))
        self.assertEqual(yard.book(), [((3, 1), 1, "out", 0, "cy")])
        self.assertEqual(yard.chain(0).ledger("bo"), ((3, 1), (9, 1), (0, 1)))
        self.assertEqual(yard.chain(0).story(0), [("bo", (0, 1), (9, 1))])
        self.assertEqual(yard.chain(0).pails(), 2)
        yard.undo()
        self.assertEqual((yard.hour(), yard.book()), ((0, 1), []))
        self.assertEqual(yard.chain(0).story(0), [])
        yard.redo()
        yard.redo()
        self.assertEqual((yard.book(), yard.hour()), (book, hour))
        self.assertEqual((yard.chain(0).ledger("bo"), yard.chain(1).ledger("cy")), ledgers)
        self.assertEqual([yard.chain(0).story(pail) for pail in range(yard.chain(0).pails())], stories)

    def test_a_hand_that_left_is_back_in_its_chain(self):
        yard = two_chains()
        yard.do(("call", "cy"))
        yard.do(("pace", "cy", 3))
        yard.do(("go", 2, 1))
        yard.do(("dismiss", "cy"))
        self.assertRaises(NoHand, yard.where, "cy")
        yard.undo()
        self.assertIsNone(yard.where("cy"))
        self.assertEqual(yard.pool(), ["cy", "di", "ed"])
        yard.undo()
        self.assertEqual(yard.where("cy"), 1)
        self.assertEqual(yard.pace("cy"), 3)
        yard.undo()
        self.assertEqual((yard.pace("cy"), yard.chain(1).pace("cy")), (2, 2))
        self.assertEqual(yard.chain(1).called(), ["cy"])

    def test_a_dismissed_hand_is_back_in_its_order(self):
        yard = yard_of(*crew(3, ["al", "bo", "cy"]), ("dismiss", "al"), ("hire", "al", 7))
        yard.undo()
        yard.undo()
        self.assertEqual(yard.pool(), ["al", "bo", "cy"])
        self.assertEqual(yard.pace("al"), 3)

    def test_two_hundred_deeds(self):
        deeds = TEN + [("pace", "al", 1 + at % 12) if at % 2 else ("go", at % 7, 60) for at in range(200 - len(TEN))]
        yard = yard_of(*deeds)
        self.assertEqual(yard.deeds(), deeds)
        behind = yard_standing(yard)
        self.assertEqual([yard.undo() for deed in deeds], deeds[::-1])
        self.assertNothingLeft(yard.undo)
        self.assertEqual(without_undone(yard_standing(yard)), without_undone(yard_standing(Yard())))
        self.assertEqual([yard.redo() for deed in deeds], deeds)
        self.assertNothingLeft(yard.redo)
        self.assertEqual(yard_standing(yard), behind)

    def test_some_more_than_two_hundred(self):
        yard = yard_of(*[("go", 1, 60)] * 205)
        self.assertEqual(yard.hour(), (41, 12))
        self.assertEqual(len(yard.deeds()), 205)

    def test_deeds_are_told_as_they_were_handed_in(self):
        deeds = [("go", 6, 4), ("lay", ((3, 1), (2, 5))), ("go", 0, 9), ("go", 120, 60)]
        yard = yard_of(*deeds)
        self.assertEqual(yard.deeds(), deeds)
        self.assertIs(type(yard.deeds()), list)
        self.assertEqual([yard.undo() for deed in deeds], deeds[::-1])
        self.assertEqual(yard.redo(), ("go", 6, 4))
        self.assertEqual(yard.hour(), (3, 2))
        self.assertIs(type(yard.redo()), tuple)


class LettingGoTest(YardCase):
    def begun(self):
        """A yard with some deeds taken back."""
        yard = yard_of(*TEN)
        for each in range(4):
            yard.undo()
        return yard

    def test_what_is_refused_leaves_what_can_be_done_again(self):
        yard = self.begun()
        self.assertYardRefused(NoHand, yard, "call", "zed")
        self.assertYardRefused(NotCalled, yard, "stay", "al")
        self.assertYardRefused(NoNext, yard, "swap", "al")
        self.assertYardRefused(BadTime, yard, "go", 1, 0)
        self.assertYardRefused(BadWay, yard, "lay", ())
        self.assertYardRefused(NoChain, yard, "outs", 1, 1)
        self.assertYardRefused(Taken, yard, "hire", "al", 1)
        self.assertYardRefused(Busy, yard, "send", "al", 0)
        self.assertYardRefused(Busy, yard, "dismiss", "al")
        self.assertYardRefused(BadPace, yard, "pace", "al", 13)
        self.assertEqual([yard.redo() for each in range(4)], TEN[-4:])

    def test_what_is_too_long_leaves_it_too(self):
        yard = yard_of(("lay", ((9, 9),)), ("lay", ((1, 1),)), *crew(12, "ab"), ("send", "a", 0), ("send", "b", 1),
                       ("call", "a"), ("go", 1, 1))
        yard.undo()
        self.assertYardRefused(TooLong, yard, "go", 60, 1)
        self.assertYardRefused(TooLong, yard, "outs", 0, 1)
        self.assertEqual(yard.redo(), ("go", 1, 1))

    def test_what_is_asked_leaves_what_can_be_done_again(self):
        yard = self.begun()
        for each in range(3):
            yard.hour(), yard.pool(), yard.chains(), yard.chain(0), yard.where("al"), yard.pace("bo")
            yard.book(), yard.deeds(), yard.twin()
            for asked, thing in ((yard.where, "zed"), (yard.pace, "zed"), (yard.chain, 1), (yard.chain, -1)):
                self.assertRaises(PailError, asked, thing)
        self.assertEqual([yard.redo() for each in range(4)], TEN[-4:])

    def test_a_good_deed_lets_it_go(self):
        for deed in (("lay", ((1, 1),)), ("hire", "ed", 1), ("send", "cy", 0), ("dismiss", "cy"), ("call", "al"),
                     ("swap", "bo"), ("pace", "al", 2), ("pace", "al", 1), ("go", 0, 1), ("go", 1, 2), ("outs", 0, 1)):
            yard = yard_of(*TEN[:4], *TEN[5:])
            for each in range(4):
                yard.undo()
            self.assertEqual(len(undone(yard)), 4)
            yard.do(deed)
            self.assertRaises(NothingLeft, yard.redo)
            self.assertEqual(yard.undo(), deed)
            self.assertEqual(undone(yard), [deed])

    def test_also_where_it_is_the_very_deed_that_was_taken_back(self):
        yard = self.begun()
        self.assertEqual(undone(yard)[0], ("pace", "bo", 12))
        yard.do(("pace", "bo", 12))
        self.assertRaises(NothingLeft, yard.redo)

    def test_taking_back_goes_on_behind_doing_again(self):
        yard = self.begun()
        yard.redo()
        self.assertEqual(undone(yard), TEN[-3:])
        yard.undo()
        self.assertEqual(undone(yard), TEN[-4:])
        yard.undo()
        self.assertEqual(undone(yard), TEN[-5:])


class TwinTest(YardCase):
    def test_it_stands_alike_with_the_same_to_take_back_and_to_do_again(self):
        for back in range(len(TEN) + 1):
            yard = yard_of(*TEN)
            for each in range(back):
                yard.undo()
            twin = yard.twin()
            self.assertIs(type(twin), Yard)
            self.assertEqual(yard_standing(twin), yard_standing(yard))
            while twin.deeds():
                self.assertEqual(twin.undo(), yard.undo())
                self.assertEqual(yard_standing(twin), yard_standing(yard))

    def test_each_goes_its_own_way(self):
        for deed in MORE:
            yard = yard_of(*TEN, ("hire", "zo", 2))
            yard.undo()
            twin, third = yard.twin(), yard.twin()
            before = yard_standing(yard)
            answer = twin.do(deed)
            behind = yard_standing(twin)
            self.assertEqual(yard_standing(yard), before)
            self.assertEqual(yard_standing(third), before)
            self.assertEqual(yard.do(deed), answer)
            self.assertEqual(yard_standing(yard), behind)
            self.assertEqual(yard_standing(third), before)
            yard.undo()
            self.assertEqual(yard_standing(twin), behind)
            third.redo()
            self.assertEqual(third.pool(), ["bo", "zo"])
            self.assertEqual(yard_standing(twin), behind)

    def test_taking_back_and_doing_again_too(self):
        yard = yard_of(*TEN)
        yard.undo()
        twin = yard.twin()
        before = yard_standing(yard)
        for each in range(5):
            twin.undo()
        self.assertEqual(yard_standing(yard), before)
        twin.do(("hire", "ed", 4))
        self.assertEqual(yard_standing(yard), before)
        self.assertEqual(yard.redo(), TEN[-1])
        self.assertEqual(twin.deeds(), TEN[:-6] + [("hire", "ed", 4)])
        other = yard.twin()
        while yard.deeds():
            yard.undo()
        self.assertEqual(other.deeds(), TEN)
        self.assertEqual(undone(other), [])


class FreshTest(YardCase):
    def test_a_told_chain_that_is_led_on_changes_nothing_in_the_yard(self):
        yard = yard_of(*TEN)
        yard.undo()
        before = yard_standing(yard)
        for deed, things in (("enter", ["zo", 4]), ("call", ["al"]), ("set_pace", ["al", 9]), ("go", [(1, 1)]),
                             ("outs", [4])):
            chain = yard.chain(0)
            getattr(chain, deed)(*things)
            self.assertNotEqual(standing(chain), before["chains"][0])
            self.assertEqual(yard_standing(yard), before)
        yard.redo()
        yard.undo()
        self.assertEqual(yard_standing(yard), before)

    def test_a_told_chain_is_not_led_on_by_the_yard(self):
        for deed in (("send", "di", 0), ("call", "al"), ("swap", "al"), ("pace", "al", 9), ("go", 1, 1),
                     ("outs", 0, 3)):
            yard = two_chains()
            chain = yard.chain(0)
            before = standing(chain)
            yard.do(deed)
            self.assertNotEqual(standing(yard.chain(0)), before)
            self.assertEqual(standing(chain), before)
            yard.undo()
            self.assertEqual(standing(yard.chain(0)), before)

    def test_told_lists_that_are_changed_change_nothing(self):
        yard = two_chains()
        yard.do(("call", "cy"))
        rows = yard.do(("go", 12, 1))
        more = yard.do(("outs", 0, 1))
        yard.undo()
        before = yard_standing(yard)
        for told in (rows, more, yard.pool(), yard.book(), yard.deeds(), yard.chain(0).hands()):
            self.assertIs(type(told), list)
            self.assertTrue(told)
            told.reverse()
            told.append("x")
            told.clear()
            self.assertEqual(yard_standing(yard), before)
        yard.redo()
        self.assertEqual(len(yard.book()), len(before["book"]) + 1)

    def test_told_lists_are_not_changed_behind_the_call(self):
        yard = two_chains()
        told = [yard.do(("go", 12, 1)), yard.pool(), yard.book(), yard.deeds()]
        kept = [list(each) for each in told]
        yard.do(("send", "di", 1))
        yard.do(("go", 12, 1))
        yard.undo()
        self.assertEqual(told, kept)

    def test_asking_changes_nothing(self):
        yard = yard_of(*TEN)
        yard.undo()
        before = yard_standing(yard)
        for each in range(3):
            self.assertEqual(yard_standing(yard), before)


if __name__ == "__main__":
    unittest.main()
