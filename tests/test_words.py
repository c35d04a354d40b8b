"""Words: deeds and yards written and read [27], [28]."""

import random
import unittest

from cases import two_chains, yard_of
from pailchain.errors import (
    BadCount, BadPace, BadText, BadTime, BadWay, Busy, Full, Idle, NoChain, NoHand, NothingLeft, Taken, TooLong,
)
from pailchain.words import deed_text, read_deed, read_yard, written
from pailchain.yard import Yard
from yard_model import yard_standing

# Each of the ten deeds, those that can't be done among them, and their texts.
TEXTS = {
    "lay 4 3": ("lay", ((4, 3),)),
    "lay 3 1 2 5": ("lay", ((3, 1), (2, 5))),
    "lay 0 -1": ("lay", ((0, -1),)),
    "lay" + " 9 9" * 6: ("lay", ((9, 9),) * 6),
    "lay" + " 9 10" * 40: ("lay", ((9, 10),) * 40),
    "hire al 1": ("hire", "al", 1),
    "hire abcdefgh 12": ("hire", "abcdefgh", 12),
    "hire a 0": ("hire", "a", 0),
    "hire z -999999999": ("hire", "z", -999999999),
    "dismiss al": ("dismiss", "al"),
    "send al 0": ("send", "al", 0),
    "send al -1": ("send", "al", -1),
    "send lay 999999999": ("send", "lay", 999999999),
    "call call": ("call", "call"),
    "stay zz": ("stay", "zz"),
    "swap yard": ("swap", "yard"),
    "pace al 100": ("pace", "al", 100),
    "go 7 2": ("go", 7, 2),
    "go 6 4": ("go", 6, 4),
    "go 0 0": ("go", 0, 0),
    "go -1 -60": ("go", -1, -60),
    "go 123456789 -123456789": ("go", 123456789, -123456789),
    "outs 0 1": ("outs", 0, 1),
    "outs -7 1000": ("outs", -7, 1000),
}
# What stands for a number or a name where none is.
NO_NUMBERS = [
    "", "00", "01", "007", "-0", "-00", "-01", "+1", "+0", "--1", "-", "+", "1-", "1000000000", "-1000000000",
    "0000000001", "12345678901234567890", "1.0", "1e3", "1_0", "0x1", "a", "1a", "7/2", "1\n", "\n1", "one", "~",
    "- 1", "1,", "9" * 3000,
]
NO_NAMES = [
    "", "A", "Al", "aL", "abcdefghi", "a1", "1", "a-b", "a_b", "a.", "a\n", "\na", "~", "`", "{", "-a", "a" * 3900,
]
FORMS = {
    "hire": "an", "dismiss": "a", "send": "an", "call": "a", "stay": "a", "swap": "a", "pace": "an", "go": "nn",
    "outs": "nn",
}


class DeedCase(unittest.TestCase):
    def assertBadText(self, text):
        with self.assertRaises(BadText, msg=repr(text)) as caught:
            read_deed(text)
        self.assertIs(type(caught.exception), BadText)


class DeedTest(DeedCase):
    def test_all_ten_are_tried(self):
        self.assertEqual(len({deed[0] for deed in TEXTS.values()}), 10)

    def test_written(self):
        for text, deed in TEXTS.items():
            self.assertEqual(deed_text(deed), text)

    def test_read(self):
        for text, deed in TEXTS.items():
            found = read_deed(text)
            self.assertEqual(found, deed)
            self.assertIs(type(found), tuple)
            self.assertEqual([type(thing) for thing in found], [type(thing) for thing in deed])
            if deed[0] == "lay":
                self.assertEqual({type(stretch) for stretch in found[1]}, {tuple})

    def test_there_and_back(self):
        source = random.Random(27)
        for each in range(400):
            word = source.choice(sorted(FORMS))
            things = []
            for kind in FORMS[word]:
                size = source.randint(1, 8)
                name = "".join(source.choice("abcxyz") for each in range(size))
                number = source.choice([1, -1]) * source.randrange(10 ** source.randint(1, 9))
                things.append(name if kind == "a" else number)
            deed = (word, *things)
            self.assertEqual(read_deed(deed_text(deed)), deed)
            way = tuple((source.randint(-3, 12), source.randint(-3, 12)) for each in range(source.randint(1, 9)))
            self.assertEqual(read_deed(deed_text(("lay", way))), ("lay", way))

    def test_what_is_read_can_be_done_or_not(self):
        yard = Yard()
        self.assertEqual(yard.do(read_deed("lay 4 3")), 0)
        for text, refusal in (("lay 0 1", BadWay), ("hire a 13", BadPace), ("call a", NoHand), ("go 1 0", BadTime),
                              ("send a 0", NoHand), ("outs 1 1", NoChain), ("outs 0 0", BadCount)):
            self.assertRaises(refusal, yard.do, read_deed(text))


class BadDeedTest(DeedCase):
    def test_a_word_more_or_less(self):
        for text in TEXTS:
            if not text.startswith("lay"):
                for more in (" 1", " a", " 1 1", " x y"):
                    self.assertBadText(text + more)
                self.assertBadText(text.rsplit(" ", 1)[0])
            self.assertBadText(text.split(" ")[0])
            self.assertBadText(text.split(" ", 1)[1])

    def test_a_blank_or_a_line_feed_more(self):
        for text in TEXTS:
            for sign in (" ", "\n", " \n"):
                self.assertBadText(sign + text)
                self.assertBadText(text + sign)
            for at, sign in enumerate(text):
                if sign == " ":
                    self.assertBadText(text[:at] + " " + text[at:])
                    self.assertBadText(text[:at] + "\n" + text[at + 1:])
                    self.assertBadText(text[:at] + text[at + 1:])

    def test_great_letters(self):
        for text in TEXTS:
            self.assertBadText(text.upper())
            self.assertBadText(text.capitalize())

    def test_no_numbers(self):
        for word, form in FORMS.items():
            for at, kind in enumerate(form):
                good = ["al" if each == "a" else "1" for each in form]
                self.assertEqual(deed_text(read_deed(" ".join([word] + good))), " ".join([word] + good))
                for thing in NO_NUMBERS if kind == "n" else NO_NAMES:
                    bad = good[:at] + [thing] + good[at + 1:]
                    self.assertBadText(" ".join([word] + bad))

    def test_names_and_numbers_exchanged(self):
        for text in ("hire 1 al", "send 0 al", "pace 1 al", "go al 1", "go 1 al", "outs al 1", "call 1", "lay al 1"):
            self.assertBadText(text)

    def test_ways(self):
        for text in ("lay", "lay ", "lay  ", "lay 4", "lay 4 3 2", "lay 4 3 2 5 1", "lay (4,3)", "lay 4,3", "lay 4/3",
                     "lay 4 3  2 5", "lay 4 3 2 05", "lay a b", "lay 4 3 al 1"):
            self.assertBadText(text)
        for thing in NO_NUMBERS:
            for text in (f"lay {thing} 3", f"lay 4 {thing}", f"lay 4 3 {thing} 5", f"lay 4 3 2 {thing}"):
                self.assertBadText(text)

    def test_no_deeds(self):
        for text in ("", " ", "\n", "yard", "undo", "redo", "hour", "pool", "hands 0", "where al", "next 0", "done",
                     "set_pace al 1", "enter al 1", "leave al", "paces al 1", "g 1 1", "gone 1 1", "~", "x" * 4000,
                     "go 1 1\ngo 1 1", "al", "1", "hire", "lay4 3"):
            self.assertBadText(text)


class YardTest(unittest.TestCase):
    def assertSame(self, found, yard):
        """It stands as the yard, with as much to take back, and with nothing to do again."""
        self.assertIs(type(found), Yard)
        self.assertRaises(NothingLeft, found.redo)
        known = yard_standing(yard)
        known["undone"] = []
        self.assertEqual(yard_standing(found), known)

    def test_the_head_alone(self):
        self.assertEqual(written(Yard()), "yard")
        self.assertSame(read_yard("yard"), Yard())

    def test_written_out(self):
        yard = yard_of(("lay", ((4, 3), (1, 1))), ("hire", "al", 3), ("send", "al", 0), ("go", 6, 4), ("outs", 0, 2))
        text = "yard\nlay 4 3 1 1\nhire al 3\nsend al 0\ngo 6 4\nouts 0 2"
        self.assertEqual(written(yard), text)
        self.assertSame(read_yard(text), yard)

    def test_there_and_back_with_deeds_taken_back(self):
        yard = two_chains()
        yard.do(("call", "cy"))
        yard.do(("go", 31, 6))
        yard.do(("swap", "al"))
        yard.do(("outs", 0, 3))
        yard.do(("dismiss", "di"))
        count = len(yard.deeds())
        texts = set()
        for left in reversed(range(count + 1)):
            text = written(yard)
            texts.add(text)
            self.assertEqual(len(text.split("\n")), left + 1)
            self.assertSame(read_yard(text), yard)
            self.assertEqual(written(read_yard(text)), text)
            if left:
                yard.undo()
        self.assertEqual(len(texts), count + 1)

    def test_writing_changes_nothing(self):
        yard = two_chains()
        yard.undo()
        before = yard_standing(yard)
        written(yard)
        self.assertEqual(yard_standing(yard), before)

    def test_what_was_read_goes_its_own_way(self):
        yard = two_chains()
        found = read_yard(written(yard))
        before = yard_standing(yard)
        found.do(("go", 5, 1))
        found.undo()
        found.undo()
        self.assertEqual(yard_standing(yard), before)

    def test_two_hundred_deeds(self):
        yard = two_chains()
        for at in range(190):
            yard.do(("go", at % 5, 60) if at % 3 else ("pace", "bo", 1 + at % 12))
        self.assertEqual(len(yard.deeds()), 200)
        self.assertSame(read_yard(written(yard)), yard)

    def test_bad_texts(self):
        for text in ("", " ", "\n", "Yard", "YARD", "yard ", " yard", "yards", "yard\n", "\nyard", "yard\n\n", "go 1 1",
                     "yard go 1 1", "go 1 1\nyard", "yard\ngo 1 1\n", "yard\n\ngo 1 1", "yard\ngo 1 1\n\ngo 1 1",
                     "yard\nyard", "yard\nundo", "yard\nhour", "yard\ngo 1", "yard\n go 1 1", "yard\ngo 1 1 ",
                     "yard\ngo 01 1", "lay 4 3", "yard \ngo 1 1", "desk\ngo 1 1", "x" * 4000):
            with self.assertRaises(BadText, msg=repr(text)) as caught:
                read_yard(text)
            self.assertIs(type(caught.exception), BadText)

    def test_a_bad_text_goes_ahead_of_a_bad_deed(self):
        for text in ("yard\ncall al\ngo 1", "yard\ngo 1 1\ncall al\nhire A 1", "yard\nlay 0 0\n",
                     "yard\nlay 0 0\ngo 1 1\ngo 1 01", "desk\ncall al", "yard\nundo\ncall al"):
            self.assertRaises(BadText, read_yard, text)

    def test_what_the_first_deed_that_cannot_be_done_is_refused_with(self):
        crew = "yard\nlay 1 1\nhire al 12\nsend al 0"
        for text, refusal in (
            ("yard\ncall al", NoHand),
            ("yard\nlay 4 10", BadWay),
            ("yard\nlay" + " 1 1" * 7, BadWay),
            ("yard" + "\nlay 1 1" * 5, Full),
            ("yard\nhire al 1\nhire al 0", Taken),
            ("yard\nhire al 1\ncall al\nhire al 1", Idle),
            ("yard\nhire al 1\nhire bo 13\ncall al", BadPace),
            ("yard\ngo 1 0", BadTime),
            ("yard\ngo -1 2", BadTime),
            ("yard\ngo 61 1\ngo 1 0", BadTime),
            (crew + "\nsend al 0\nsend al 7", Busy),
            (crew + "\ngo 60 1\nsend zz 0", TooLong),
            (crew + "\nouts 0 61", BadCount),
            (crew + "\nouts 1 61", NoChain),
        ):
            with self.assertRaises(refusal, msg=repr(text)) as caught:
                read_yard(text)
            self.assertIs(type(caught.exception), refusal)


if __name__ == "__main__":
    unittest.main()
