"""Chains and yards that several tests begin with, and how a refusal is tested."""

import unittest

from model import standing
from pailchain.chain import Chain
from pailchain.yard import Yard
from yard_model import yard_standing

WAY = [(4, 3)]


def three():
    """Slow to quick on a way of labour 12: a with pail 2, b with pail 1, c with pail 0, all at the well."""
    chain = Chain(WAY)
    chain.enter("c", 3)
    chain.enter("b", 2)
    chain.enter("a", 1)
    return chain


def lone(labour, pace):
    """One hand a on a way of so much labour, at most 9."""
    chain = Chain([(labour, 1)])
    chain.enter("a", pace)
    return chain


def slow_ahead():
    """On a way of labour 6 the quick one, a with pail 1, walks behind the slow one, z with pail 0."""
    chain = Chain([(6, 1)])
    chain.enter("z", 2)
    chain.enter("a", 4)
    return chain


def yard_of(*deeds):
    """A yard that has done these deeds."""
    yard = Yard()
    for deed in deeds:
        yard.do(deed)
    return yard


def crew(pace, names):
    """The deeds that hire these names, all with one pace."""
    return [("hire", name, pace) for name in names]


def two_chains():
    """From the well on, al (pace 1) and bo (pace 3) in chain 0 of labour 12, cy (pace 2) in chain 1 of labour 6;
    in the pool are di (pace 4) and ed (pace 5)."""
    return yard_of(
        ("lay", ((4, 3),)), ("lay", ((6, 1),)), ("hire", "al", 1), ("hire", "bo", 3), ("hire", "cy", 2),
        ("hire", "di", 4), ("hire", "ed", 5), ("send", "bo", 0), ("send", "al", 0), ("send", "cy", 1),
    )


class RefusalCase(unittest.TestCase):
    def assertRefused(self, refusal, chain, deed, *things):
        """Refused just so, and nothing changed by it."""
        before = standing(chain)
        with self.assertRaises(refusal) as caught:
            getattr(chain, deed)(*things)
        self.assertIs(type(caught.exception), refusal)
        self.assertEqual(standing(chain), before)


class YardCase(unittest.TestCase):
    def assertYardRefused(self, refusal, yard, *deed):
        """Refused just so, and nothing changed by it, what can be taken back and done again neither."""
        before = yard_standing(yard)
        with self.assertRaises(refusal) as caught:
            yard.do(deed)
        self.assertIs(type(caught.exception), refusal)
        self.assertEqual(yard_standing(yard), before)
