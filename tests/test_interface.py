"""The names and arguments that the document's interface lists."""

import inspect
import unittest
from importlib import import_module

FUNCTIONS = {
    "amounts": {
        "amount": ["num", "den"], "plus": ["one", "other"], "minus": ["one", "other"], "times": ["one", "other"],
        "over": ["one", "other"], "below": ["one", "other"], "shown": ["one"],
    },
    "way": {
        "labour": ["way"], "steps": ["way"], "place_at": ["way", "step"], "step_at": ["way", "place"],
        "stretch_at": ["way", "place"],
    },
    "walking": {
        "speeds": ["paces", "places"], "meeting": ["labour", "paces", "places"],
        "walked": ["paces", "places", "hours"],
    },
    "shares": {
        "shares": ["way", "paces", "places"], "table": ["paces", "rounds"], "behind": ["paces", "found", "rounds"],
        "spread": ["found"], "narrowing": ["paces", "rounds"], "resting": ["way", "paces"],
    },
    "orders": {
        "emptied_by": ["labour", "paces", "hours"], "best": ["labour", "paces", "hours"],
        "bound": ["labour", "paces", "hours"],
    },
    "looker": {"log_fault": ["labour", "paces", "rows"]},
    "words": {"deed_text": ["deed"], "read_deed": ["text"], "written": ["yard"], "read_yard": ["text"]},
}
METHODS = {
    ("chain", "Chain"): {
        "__init__": ["way"], "enter": ["name", "pace"], "call": ["name"], "stay": ["name"], "swap": ["name"],
        "set_pace": ["name", "pace"], "go": ["hours"], "outs": ["count"], "hour": [], "hands": [], "called": [],
        "pace": ["name"], "place": ["name"], "pail": ["name"], "emptied": [], "pails": [], "next_out": [],
        "ledger": ["name"], "story": ["pail"], "twin": [],
    },
    ("yard", "Yard"): {
        "__init__": [], "do": ["deed"], "undo": [], "redo": [], "hour": [], "pool": [], "chains": [],
        "chain": ["number"], "where": ["name"], "pace": ["name"], "book": [], "deeds": [], "twin": [],
    },
    ("desk", "Desk"): {"__init__": [], "say": ["row"]},
}


class InterfaceTest(unittest.TestCase):
    def test_functions_and_their_arguments(self):
        for file, functions in FUNCTIONS.items():
            module = import_module("pailchain." + file)
            for name, arguments in functions.items():
                found = vars(module)[name]
                self.assertEqual(found.__module__, module.__name__)
                self.assertEqual(list(inspect.signature(found).parameters), arguments, (file, name))

    def test_methods_stand_in_the_class_itself(self):
        for (file, kind), methods in METHODS.items():
            found = vars(import_module("pailchain." + file))[kind]
            for name, arguments in methods.items():
                self.assertIn(name, vars(found))
                self.assertEqual(list(inspect.signature(vars(found)[name]).parameters), ["self"] + arguments, name)


if __name__ == "__main__":
    unittest.main()
