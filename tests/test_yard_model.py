"""Yards against the model, whatever is done: [1], [2], [12] to [14], [23] to [26]."""

import random
import unittest
from fractions import Fraction

from pailchain.errors import PailError
from pailchain.yard import Yard
from yard_model import YardModel, yard_standing

HANDS = list("abcdefghijklmnop")
WORDS = (
    ["hire"] * 5 + ["send"] * 6 + ["go"] * 6 + ["outs"] * 3 + ["call"] * 3
    + ["lay", "dismiss", "stay", "swap", "swap", "pace", "pace"]
)


def random_way(source):
    most = source.choice([1, 3, 9])
    return tuple((source.randint(1, most), source.randint(1, 3)) for each in range(source.randint(1, 3)))


def crew_deeds(source):
    """The deeds by which a crew stands in three chains."""
    found = [("lay", random_way(source)) for each in range(3)]
    for at, name in enumerate(HANDS[:source.randint(4, 12)]):
        found.append(("hire", name, source.randint(1, 12)))
        found.append(("send", name, source.choice([at % 3, 0])))
    return found


def random_name(source, state, word):
    """A name, most often one with which the deed can be done."""
    names = state.hired if word == "pace" else HANDS
    if word in ("call", "stay", "swap"):
        names = [name for name in HANDS if name in state.posts]
    elif word in ("send", "dismiss"):
        names = [name for name in state.hired if name not in state.posts]
    if not names or source.random() < 0.05:
        names = HANDS + ["z", "", "A"]
    return source.choice(names)


def random_hours(source, state):
    """Some hours as num and den, often just those till the next turn of some chain, not always in lowest terms."""
    hours = Fraction(source.randint(0, 80), source.choice([1, 2, 3, 7, 12, 60]))
    awake = [model for model in state.models if model.names]
    if awake and source.random() < 0.5:
        hours = source.choice(awake).next_out()
    elif source.random() < 0.6:
        hours /= 10
    by = source.choice([1, 1, 1, 2, 60])
    if source.random() < 0.03:
        by = source.choice([0, -1])
    return hours.numerator * by, hours.denominator * by


def random_deed(source, state):
    """A deed; most can be done."""
    word = source.choice(WORDS)
    if word == "lay" or not state.models and source.random() < 0.5:
        return ("lay", random_way(source) if source.random() < 0.9 else ((10, 1),))
    if word == "go":
        return (word,) + random_hours(source, state)
    number = source.randrange(max(1, len(state.models))) if source.random() < 0.95 else source.choice([-1, 4])
    if word == "outs":
        return (word, number, source.choice([1, 1, 2, 3, 7, 20, 0, 61]))
    name = random_name(source, state, word)
    if word in ("hire", "pace"):
        return (word, name, source.choice([1, 2, 3, 4, 6, 12, 7, 11, 13]))
    return (word, name, number) if word == "send" else (word, name)


def answer_of(deed, *things):
    """The answer, or the class of the refusal."""
    try:
        return deed(*things)
    except PailError as error:
        return type(error)


class ModelCase(unittest.TestCase):
    def assertAlike(self, yard, model, source):
        """Does, takes back or does again one deed in both, and compares all that is told."""
        chance = source.random()
        if chance < 0.10:
            self.assertEqual(answer_of(yard.undo), model.undo())
        elif chance < 0.16:
            self.assertEqual(answer_of(yard.redo), model.redo())
        else:
            deed = random_deed(source, model.state)
            self.assertEqual(answer_of(yard.do, deed), model.do(deed), deed)
        self.assertEqual(yard_standing(yard), model.standing())

    def assertSums(self, yard, deeds):
        """What [14] tells, for each chain of the yard."""
        ways = [deed[1] for deed in deeds if deed[0] == "lay"]
        for number, way in enumerate(ways):
            labour = sum(count * toil for count, toil in way)
            told = yard_standing(yard)["chains"][number]
            places = [Fraction(*place) for place in told["places"]]
            done = sum(Fraction(*ledger[1]) for ledger in told["ledgers"].values())
            self.assertEqual(done, labour * len(told["emptied"]) + sum(places))
            for pail, story in enumerate(told["stories"]):
                ends = [(0, 1)] + [row[2] for row in story]
                self.assertEqual([row[1] for row in story], ends[:-1])
                inside = pail not in told["emptied"]
                self.assertEqual(ends[-1], told["places"][told["pails"].index(pail)] if inside else (labour, 1))


class WhateverIsDoneTest(ModelCase):
    def test_random_deeds(self):
        kinds = set()
        for seed in range(60):
            source = random.Random(seed)
            yard, model = Yard(), YardModel()
            if seed % 2:
                for deed in crew_deeds(source):
                    self.assertEqual(answer_of(yard.do, deed), model.do(deed))
            for each in range(60):
                self.assertAlike(yard, model, source)
            kinds.update((row[1], row[2]) for row in yard.book())
            self.assertSums(yard, yard.deeds())
        # Pails were emptied and hands left in each of four chains.
        self.assertEqual(len(kinds), 8)

    def test_twins_go_their_own_ways(self):
        for seed in range(12):
            source = random.Random(500 + seed)
            yards, models = [Yard()], [YardModel()]
            for each in range(60):
                at = source.randrange(len(yards))
                if each % 15 == 14:
                    yards.append(yards[at].twin())
                    models.append(twin_of(models[at]))
                self.assertAlike(yards[at], models[at], source)
                for yard, model in zip(yards, models):
                    self.assertEqual(yard_standing(yard), model.standing())

    def test_two_hundred_deeds(self):
        source = random.Random(26)
        yard, model = Yard(), YardModel()
        while len(model.past) < 200:
            deed = random_deed(source, model.state)
            self.assertEqual(answer_of(yard.do, deed), model.do(deed), deed)
        self.assertEqual(yard_standing(yard), model.standing())
        self.assertSums(yard, yard.deeds())
        for each in range(200):
            self.assertEqual(yard.undo(), model.undo())
            if each % 20 == 0:
                self.assertEqual(yard.book(), model.state.book)
        self.assertEqual(yard_standing(yard), model.standing())
        for each in range(200):
            self.assertEqual(yard.redo(), model.redo())
        self.assertEqual(yard_standing(yard), model.standing())


def twin_of(model):
    """The same deeds done and taken back in another model."""
    other = YardModel()
    for deed in [deed for deed, ahead in model.past] + model.future[::-1]:
        other.step(deed)
    for each in model.future:
        other.undo()
    return other


if __name__ == "__main__":
    unittest.main()
