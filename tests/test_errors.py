import unittest

from pailchain import errors
from pailchain.errors import PailError

WORDS = {
    "BadWay": "bad way",
    "BadPlace": "bad place",
    "BadName": "bad name",
    "Taken": "taken",
    "BadPace": "bad pace",
    "Full": "full",
    "NoHand": "no hand",
    "Called": "called",
    "NotCalled": "not called",
    "NoNext": "no next",
    "BadTime": "bad time",
    "TooLong": "too long",
    "BadCount": "bad count",
    "Nobody": "nobody",
    "NoPail": "no pail",
    "NotRising": "not rising",
    "BadLabour": "bad labour",
    "Busy": "busy",
    "NoChain": "no chain",
    "Idle": "idle",
    "NothingLeft": "nothing left",
    "BadText": "bad text",
}


class ErrorsTest(unittest.TestCase):
    def test_there_are_22_and_no_other(self):
        self.assertEqual(len(WORDS), 22)
        found = [name for name, thing in vars(errors).items()
                 if isinstance(thing, type) and thing is not PailError]
        self.assertEqual(sorted(found), sorted(WORDS))

    def test_each_has_its_word(self):
        for name, word in WORDS.items():
            with self.subTest(name):
                made = getattr(errors, name)()
                self.assertEqual(made.word, word)
                self.assertIs(type(made.word), str)
                self.assertIn("word", vars(made))

    def test_the_word_is_the_message(self):
        for name, word in WORDS.items():
            self.assertEqual(str(getattr(errors, name)()), word)

    def test_a_base_error_has_the_word_it_was_made_with(self):
        self.assertEqual(PailError("any").word, "any")

    def test_each_stands_straight_under_the_base(self):
        for name in WORDS:
            self.assertEqual(getattr(errors, name).__bases__, (PailError,), name)

    def test_none_stands_under_another(self):
        for one in WORDS:
            for other in WORDS:
                if one != other:
                    self.assertFalse(issubclass(getattr(errors, one), getattr(errors, other)), (one, other))

    def test_the_base_is_a_value_error(self):
        self.assertEqual(PailError.__bases__, (ValueError,))

    def test_the_base_catches_each(self):
        for name, word in WORDS.items():
            with self.assertRaises(PailError) as caught:
                raise getattr(errors, name)()
            self.assertEqual(caught.exception.word, word)


if __name__ == "__main__":
    unittest.main()
