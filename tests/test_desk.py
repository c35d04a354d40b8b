"""The desk: what it answers to rows of words [29]."""

import unittest

from pailchain import errors
from pailchain.desk import Desk
from test_words import NO_NAMES, NO_NUMBERS

CREW = ["lay 4 3", "lay 6 1", "hire al 1", "hire bo 3", "hire cy 2", "hire di 4", "send bo 0", "send al 0", "send cy 1"]
# All that can be asked of CREW.
ASKED = [
    "hour", "pool", "hands 0", "hands 1", "where al", "where bo", "where cy", "where di", "ledger al 0", "ledger bo 0",
    "ledger cy 1", "next 0", "next 1",
]


def desk_of(*rows):
    """A desk that was told these rows, none of which it refused."""
    desk = Desk()
    for row in rows:
        answer = desk.say(row)
        assert not answer.startswith("no: "), (row, answer)
    return desk


class DeskCase(unittest.TestCase):
    def assertSays(self, desk, *talk):
        """Rows and their answers, by turns."""
        for row, answer in zip(talk[::2], talk[1::2]):
            found = desk.say(row)
            self.assertIs(type(found), str)
            self.assertEqual(found, answer, repr(row))

    def assertRefused(self, desk, row, word):
        """Refused by this word, and nothing changed by it, what can be done again neither."""
        before = [desk.say(asked) for asked in ASKED]
        self.assertSays(desk, row, "no: " + word)
        self.assertEqual([desk.say(asked) for asked in ASKED], before)


class DeedTest(DeskCase):
    def test_each_answer(self):
        self.assertSays(
            Desk(),
            "lay 4 3", "chain 0",
            "lay 6 1 1 1", "chain 1",
            "hire al 1", "done",
            "hire bo 3", "done",
            "hire cy 7", "done",
            "dismiss cy", "done",
            "send bo 0", "pail 0",
            "send al 0", "pail 1",
            "call al", "done",
            "stay al", "done",
            "swap al", "done",
            "swap bo", "done",
            "pace bo 6", "done",
            "go 1 2", "none",
            "go 3 2", "2 0 out 0 bo",
            "call al", "done",
            "outs 0 1", "11/3 0 out 1 bo\n11/3 0 left al",
            "outs 0 2", "97/18 0 out 2 bo\n133/18 0 out 3 bo",
        )

    def test_rows_of_several_chains(self):
        self.assertSays(
            desk_of(*CREW),
            "call al", "done",
            "go 13 2", "3 1 out 0 cy\n4 0 out 0 bo\n4 0 left al\n6 1 out 1 cy",
            "outs 1 1", "20/3 0 out 1 bo\n9 1 out 2 cy",
            "call cy", "done",
            "outs 1 60", "32/3 0 out 2 bo\n12 1 out 3 cy\n12 1 left cy",
            "outs 1 1", "no: nobody",
        )

    def test_several_rows_at_one_moment(self):
        self.assertSays(
            desk_of("lay 6 1", "hire z 2", "hire a 4", "send z 0", "send a 0"),
            "go 2 1", "none",
            "go 1 1", "3 0 out 0 z\n3 0 out 1 z",
            "go 0 5", "none",
        )

    def test_undo_and_redo(self):
        desk = desk_of("lay 4 3 1 1", "hire al 3", "send al 0", "go 6 4")
        self.assertSays(
            desk,
            "redo", "no: nothing left",
            "undo", "go 6 4",
            "hour", "0",
            "undo", "send al 0",
            "undo", "hire al 3",
            "undo", "lay 4 3 1 1",
            "undo", "no: nothing left",
            "redo", "lay 4 3 1 1",
            "redo", "hire al 3",
            "redo", "send al 0",
            "redo", "go 6 4",
            "redo", "no: nothing left",
            "hour", "3/2",
            "where al", "chain 0 at 9/2 with 0",
        )

    def test_asking_and_refusals_leave_what_can_be_done_again(self):
        desk = desk_of(*CREW, "go 1 1", "pace al 5")
        desk.say("undo")
        desk.say("undo")
        for row in ASKED:
            self.assertFalse(desk.say(row).startswith("no: "))
        for row in ("go 1 0", "call zz", "hands 7", "where zz", "nonsense", "", "go 1", "send di 4"):
            self.assertTrue(desk.say(row).startswith("no: "))
        self.assertSays(desk, "redo", "go 1 1", "redo", "pace al 5", "redo", "no: nothing left")

    def test_a_good_deed_lets_it_go(self):
        desk = desk_of(*CREW, "go 1 1")
        self.assertSays(desk, "undo", "go 1 1", "hire ed 1", "done", "redo", "no: nothing left", "undo", "hire ed 1")


class QuestionTest(DeskCase):
    def test_of_a_new_desk(self):
        self.assertSays(Desk(), "hour", "0", "pool", "none", "hands 0", "no: no chain", "next 0", "no: no chain",
                        "where al", "no: no hand", "ledger al 0", "no: no chain")

    def test_each_question(self):
        desk = desk_of(*CREW)
        self.assertSays(
            desk,
            "hour", "0",
            "pool", "di",
            "hands 0", "al bo",
            "hands 1", "cy",
            "where di", "pool",
            "where al", "chain 0 at 0 with 1",
            "where cy", "chain 1 at 0 with 0",
            "ledger al 0", "0 0 0",
            "next 0", "4",
            "next 1", "3",
            "swap al", "done",
            "go 7 3", "none",
            "hour", "7/3",
            "hands 0", "bo al",
            "where al", "chain 0 at 7/3 with 0",
            "where bo", "chain 0 at 7/3 with 1",
            "ledger al 0", "7/3 7/3 0",
            "ledger bo 0", "7/3 7/3 14/3",
            "next 0", "29/3",
            "next 1", "2/3",
        )

    def test_no_hands_and_none_in_the_pool(self):
        self.assertSays(
            desk_of("lay 1 1", "hire al 1", "send al 0", "call al"),
            "pool", "none",
            "next 0", "1",
            "go 1 1", "1 0 out 0 al\n1 0 left al",
            "hands 0", "none",
            "next 0", "none",
            "pool", "al",
            "where al", "pool",
            "ledger al 0", "1 1 0",
        )

    def test_the_pool_is_in_the_order_of_hiring(self):
        desk = desk_of(*CREW, "hire bob 1", "hire abe 1", "call cy", "call al")
        self.assertSays(desk, "pool", "di bob abe", "go 4 1", "3 1 out 0 cy\n3 1 left cy\n4 0 out 0 bo\n4 0 left al",
                        "pool", "al cy di bob abe", "dismiss al", "done", "hire al 2", "done",
                        "pool", "cy di bob abe al")

    def test_ledgers_of_those_who_left_or_were_never_there(self):
        self.assertSays(
            desk_of(*CREW, "call cy", "go 3 1", "dismiss cy"),
            "ledger cy 1", "3 6 0",
            "where cy", "no: no hand",
            "ledger cy 0", "no: no hand",
            "ledger di 0", "no: no hand",
            "ledger zz 1", "no: no hand",
        )

    def test_a_chains_number_is_looked_at_ahead_of_a_name(self):
        desk = desk_of(*CREW)
        for name in ("al", "di", "zz"):
            for number in ("2", "-1", "999999999"):
                self.assertRefused(desk, f"ledger {name} {number}", "no chain")
        self.assertRefused(desk, "ledger zz 0", "no hand")
        self.assertRefused(desk, "ledger cy 0", "no hand")
        # Sending is a deed, refused as the yard refuses it.
        self.assertRefused(desk, "send zz 2", "no hand")
        self.assertRefused(desk, "send al 2", "busy")

    def test_refused(self):
        desk = desk_of(*CREW)
        for word in ("hands", "next"):
            for number in ("2", "-1", "4", "999999999", "-999999999"):
                self.assertRefused(desk, f"{word} {number}", "no chain")
        for name in ("zz", "pool", "none", "abcdefgh"):
            self.assertRefused(desk, f"where {name}", "no hand")


class RefusalTest(DeskCase):
    def test_each_refusal_by_its_word(self):
        desk = desk_of(*CREW, "call al")
        for row, word in (
            ("lay 0 1", "bad way"),
            ("hire al 0", "taken"),
            ("hire zz 13", "bad pace"),
            ("dismiss zz", "no hand"),
            ("dismiss al", "busy"),
            ("send di 2", "no chain"),
            ("call al", "called"),
            ("call di", "idle"),
            ("stay bo", "not called"),
            ("swap bo", "no next"),
            ("pace zz 0", "no hand"),
            ("pace di 0", "bad pace"),
            ("go 61 1", "bad time"),
            ("go 1 0", "bad time"),
            ("outs 2 1", "no chain"),
            ("outs 0 0", "bad count"),
            ("redo", "nothing left"),
            ("go 1", "bad text"),
        ):
            self.assertRefused(desk, row, word)

    def test_full_nobody_and_too_long(self):
        desk = desk_of(*["lay 1 1"] * 4, "hire al 12", "send al 0")
        self.assertSays(desk, "lay 1 1", "no: full", "outs 1 1", "no: nobody", "go 60 1", "no: too long",
                        "go 61 12", "no: too long", "hour", "0")
        self.assertEqual(len(desk.say("go 5 1").split("\n")), 60)
        self.assertSays(Desk(), "undo", "no: nothing left", "redo", "no: nothing left")

    def test_the_words_are_those_of_the_refusals(self):
        self.assertEqual(errors.BadText().word, "bad text")
        self.assertEqual(errors.TooLong().word, "too long")

    def test_rows_that_are_none_of_these(self):
        desk = desk_of(*CREW, "go 1 1")
        desk.say("undo")
        rows = [
            "", " ", "\n", "Hour", "hour ", " hour", "hour 0", "hour\n", "pool al", "pool ", "hands", "hands ",
            "hands al", "hands 0 1", "hands  0", "hands 00", "hands +0", "hands -0", "hands 0 ", "where", "where 0",
            "where al bo", "where Al", "where abcdefghi", "ledger", "ledger al", "ledger 0 al", "ledger al 0 0", "ledger 0",
            "next", "next al", "next 0 0", "next 1000000000", "undo 1", "undo ", " undo", "UNDO", "redo 1", "redo ", "redo\n",
            "undo\nredo", "yard", "yard\ngo 1 1", "go 1 1\ngo 1 1", "done", "chains", "chain 0", "book", "deeds",
            "pace al", "pace", "story 0", "help", "none", "lay", "lay 4", "hire al", "send al", "call", "go 01 1",
            "go 1/2 1", "no: bad text", "~" * 4000, "x y z", "hour\nhour",
        ]
        for row in rows:
            self.assertRefused(desk, row, "bad text")
        self.assertSays(desk, "redo", "go 1 1")

    def test_names_and_numbers_as_in_deeds(self):
        desk = desk_of(*CREW)
        for thing in NO_NUMBERS:
            for begin in ("hands", "next", "ledger al", "ledger zz", "outs 0"):
                self.assertSays(desk, f"{begin} {thing}", "no: bad text")
        for thing in NO_NAMES:
            for row in (f"where {thing}", f"ledger {thing} 0", f"ledger {thing} 9", f"call {thing}"):
                self.assertSays(desk, row, "no: bad text")

    def test_desks_have_yards_of_their_own(self):
        one, other = Desk(), Desk()
        one.say("hire al 1")
        one.say("go 1 1")
        self.assertSays(other, "pool", "none", "hour", "0", "undo", "no: nothing left")


if __name__ == "__main__":
    unittest.main()
