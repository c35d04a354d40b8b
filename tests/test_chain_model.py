"""Chains against the model, whatever is done: [1], [2], [14], [15] and all that is told of chains."""

import random
import unittest
from copy import deepcopy
from fractions import Fraction

from cases import slow_ahead, three
from model import Model, pair, standing
from pailchain.chain import Chain
from pailchain.errors import (
    BadCount, BadName, BadPace, BadTime, Called, Full, NoHand, NoNext, Nobody, NotCalled, PailError, Taken, TooLong,
)

NAMES = list("abcdefghij")


def random_way(source):
    return [(source.randint(1, 9), source.randint(1, 9)) for each in range(source.randint(1, 6))]


def labour_of(way):
    return sum(count * toil for count, toil in way)


def random_deed(source, model):
    """A deed's name and things; most can be done."""
    name = source.choice(model.names or NAMES) if source.random() < 0.9 else source.choice(NAMES + ["", "A"])
    pace = source.randint(1, 12) if source.random() < 0.95 else source.choice([0, 13, -1])
    deed = source.choice(["enter"] * 4 + ["call"] * 2 + ["stay", "swap", "set_pace"] + ["go"] * 6 + ["outs"] * 2)
    if deed == "enter":
        return deed, [source.choice(NAMES + ["", "a-"]), pace]
    if deed == "set_pace":
        return deed, [name, pace]
    if deed == "outs":
        return deed, [source.choice([1, 1, 1, 2, 3, 5, 9, 0, 61])]
    if deed == "go":
        return deed, [random_hours(source, model)]
    return deed, [name]


def random_hours(source, model):
    """Some hours, often just those till the next turn."""
    hours = Fraction(source.randint(0, 400), source.choice([1, 2, 3, 7, 12, 59, 60]))
    if model.names and source.random() < 0.5:
        hours = model.next_out() * source.choice([1, 1, Fraction(1, 2)])
    elif source.random() < 0.7:
        hours /= 10
    return hours


def refusal_of_hours(model, hours):
    if not 0 <= hours <= 60 or hours.denominator > 60:
        return BadTime
    trial = deepcopy(model)
    trial.go(hours)
    return TooLong if len(trial.emptied) - len(model.emptied) > 60 else None


def refusal_of_joining(model, name, pace):
    if not name.isalpha() or not name.islower():
        return BadName
    if name in model.names:
        return Taken
    if not 1 <= pace <= 12:
        return BadPace
    return Full if len(model.names) == 8 else None


def refusal(model, deed, things):
    """The class with which the deed is refused, or None."""
    if deed == "enter":
        return refusal_of_joining(model, *things)
    if deed == "go":
        return refusal_of_hours(model, *things)
    if deed == "outs":
        if not 1 <= things[0] <= 60:
            return BadCount
        return None if model.names else Nobody
    if things[0] not in model.names:
        return NoHand
    if deed == "set_pace":
        return None if 1 <= things[1] <= 12 else BadPace
    if deed == "swap":
        return NoNext if model.names[-1] == things[0] else None
    called = things[0] in model.called
    if deed == "call":
        return Called if called else None
    return None if called else NotCalled


def do(chain, deed, things):
    """The chain's answer, or the class of its refusal."""
    handed = [pair(thing) if isinstance(thing, Fraction) else thing for thing in things]
    try:
        return getattr(chain, deed)(*handed)
    except PailError as error:
        return type(error)


class ModelCase(unittest.TestCase):
    def assertAlike(self, chain, model, deed, things):
        """Does one deed in both, and compares all that is told."""
        known = refusal(model, deed, things)
        if known is None:
            known = getattr(model, deed)(*things)
        self.assertEqual(do(chain, deed, things), known)
        self.assertEqual(standing(chain), model.standing())

    def assertSums(self, chain, labour):
        told = standing(chain)
        done = sum(Fraction(*ledger[1]) for ledger in told["ledgers"].values())
        places = [Fraction(*place) for place in told["places"]]
        self.assertEqual(done, labour * len(told["emptied"]) + sum(places))
        self.assertEqual(places, sorted(places))
        self.assertEqual(sorted(told["emptied"] + told["pails"]), list(range(told["taken"])))
        for pail, story in enumerate(told["stories"]):
            at = (0, 1)
            for name, begin, end in story:
                self.assertEqual(begin, at)
                self.assertLess(Fraction(*begin), Fraction(*end))
                at = end
            for row, other in zip(story, story[1:]):
                self.assertNotEqual(row[0], other[0])
            known = (labour, 1) if pail in told["emptied"] else told["places"][told["pails"].index(pail)]
            self.assertEqual(at, known)


class WhateverIsDoneTest(ModelCase):
    def test_random_deeds(self):
        for seed in range(150):
            source = random.Random(seed)
            way = random_way(source)
            chain, model = Chain(way), Model(labour_of(way))
            for each in range(40):
                self.assertAlike(chain, model, *random_deed(source, model))
            self.assertSums(chain, labour_of(way))

    def test_short_ways_where_much_is_at_one_moment(self):
        for seed in range(150):
            source = random.Random(1000 + seed)
            way = [(source.randint(1, 3), source.randint(1, 2))]
            chain, model = Chain(way), Model(labour_of(way))
            for name in NAMES[:source.randint(2, 8)]:
                self.assertAlike(chain, model, "enter", [name, source.choice([1, 2, 4, 12])])
            for each in range(25):
                self.assertAlike(chain, model, *random_deed(source, model))
            self.assertSums(chain, labour_of(way))

    def test_a_twin_goes_its_own_way(self):
        for seed in range(40):
            source = random.Random(2000 + seed)
            way = random_way(source)
            chains, models = [Chain(way)], [Model(labour_of(way))]
            for each in range(60):
                at = source.randrange(len(chains))
                if each % 15 == 10:
                    chains.append(chains[at].twin())
                    models.append(deepcopy(models[at]))
                self.assertAlike(chains[at], models[at], *random_deed(source, models[at]))
                for chain, model in zip(chains, models):
                    self.assertEqual(standing(chain), model.standing())

    def test_four_hundred_pails_and_four_hundred_deeds(self):
        source = random.Random(15)
        way = [(9, 9), (7, 5)]
        chain, model = Chain(way), Model(labour_of(way))
        deeds = 0
        while deeds < 400:
            deed, things = random_deed(source, model)
            if len(model.stories) > 380:
                deed, things = "go", [Fraction(1, 60)]
            elif deed == "call":
                deed, things = "outs", [5]
            if refusal(model, deed, things) is None:
                self.assertEqual(do(chain, deed, things), getattr(model, deed)(*things))
                deeds += 1
        self.assertGreater(chain.pails(), 350)
        self.assertEqual(standing(chain), model.standing())
        self.assertSums(chain, labour_of(way))


class OrderTest(unittest.TestCase):
    def test_slow_to_quick_never_loses_anything(self):
        for seed in range(60):
            source = random.Random(seed)
            chain = Chain(random_way(source))
            for name in NAMES[:8]:
                first = chain.pace(chain.hands()[0]) if chain.hands() else 12
                chain.enter(name, source.randint(1, first))
                if source.random() < 0.3:
                    chain.call(source.choice([hand for hand in chain.hands() if hand not in chain.called()]))
                chain.outs(source.randint(1, 3))
                chain.go((source.randint(0, 7), 7))
                for hand in NAMES[:NAMES.index(name) + 1]:
                    self.assertEqual(chain.ledger(hand)[2], (0, 1))

    def test_no_other_order_empties_as_many_more_as_there_are_hands(self):
        for seed in range(120):
            source = random.Random(seed)
            labour = source.randint(1, 9)
            count = source.randint(2, 8)
            paces = [source.randint(1, 12) for each in range(count)]
            hours = Fraction(50 * labour, sum(paces))
            hours = Fraction(int(hours * 60), 60)
            found = []
            for order in (paces, sorted(paces)):
                chain = Chain([(labour, 1)])
                for name, pace in zip(NAMES, reversed(order)):
                    chain.enter(name, pace)
                chain.go(pair(min(hours, 60)))
                found.append(len(chain.emptied()))
            self.assertLess(found[0] - found[1], count)


class FreshTest(unittest.TestCase):
    def test_told_lists_may_be_changed(self):
        chain = three()
        chain.call("a")
        chain.call("b")
        rows = chain.outs(1)
        before = standing(chain)
        for told in (rows, chain.hands(), chain.called(), chain.emptied(), chain.story(0), chain.story(1)):
            self.assertIs(type(told), list)
            self.assertTrue(told)
            told.reverse()
            told.append("x")
            told.clear()
            self.assertEqual(standing(chain), before)
        chain.go((1, 2)).append("x")
        self.assertEqual(chain.go((0, 1)), [])

    def test_told_lists_are_not_changed_behind_the_call(self):
        chain = three()
        chain.call("b")
        told = [chain.hands(), chain.called(), chain.emptied(), chain.story(0), chain.outs(1), chain.story(1)]
        kept = deepcopy(told)
        chain.swap("a")
        chain.enter("d", 5)
        chain.call("d")
        chain.go((20, 1))
        self.assertEqual(told, kept)

    def test_asking_changes_nothing(self):
        chain, other = slow_ahead(), slow_ahead()
        for each in range(6):
            before = standing(chain)
            self.assertEqual(standing(chain), before)
            chain.twin().outs(7)
            self.assertEqual(standing(chain), before)
            self.assertEqual(chain.go((5, 4)), other.go((5, 4)))
        self.assertEqual(standing(chain), standing(other))

    def test_a_twin_of_each_kind_of_state(self):
        chain = three()
        chain.go((2, 1))
        chain.call("b")
        before = standing(chain)
        for deed, things in (("enter", ["d", 4]), ("call", ["a"]), ("stay", ["b"]), ("swap", ["a"]),
                             ("set_pace", ["c", 9]), ("go", [(1, 1)]), ("outs", [4])):
            twin = chain.twin()
            self.assertIs(type(twin), Chain)
            self.assertEqual(standing(twin), before)
            getattr(twin, deed)(*things)
            self.assertNotEqual(standing(twin), before, deed)
            self.assertEqual(standing(chain), before, deed)
            kept = chain.twin()
            moved = chain.twin()
            getattr(moved, deed)(*things)
            self.assertEqual(standing(moved), standing(twin))
            self.assertEqual(standing(kept), before, deed)

    def test_a_deed_in_the_chain_leaves_its_twin_alone(self):
        for deed, things in (("enter", ["d", 4]), ("call", ["a"]), ("stay", ["b"]), ("swap", ["a"]),
                             ("set_pace", ["c", 9]), ("go", [(1, 1)]), ("outs", [4])):
            chain = three()
            chain.go((2, 1))
            chain.call("b")
            twin = chain.twin()
            before = standing(twin)
            getattr(chain, deed)(*things)
            self.assertEqual(standing(twin), before, deed)


if __name__ == "__main__":
    unittest.main()
