"""Chains that several tests begin with, and how a refusal is tested."""

import unittest

from model import standing
from pailchain.chain import Chain

WAY = [(4, 3)]


def three():
    """Slow to quick on a way of labour 12: a with pail 2, b with pail 1, c with pail 0, all at the well."""
    chain = Chain(WAY)
    chain.enter("c", 3)
    chain.enter("b", 2)
    chain.enter("a", 1)
    return chain


def lone(labour, pace):
    """One hand a on a way of so much labour, at most 9."""
    chain = Chain([(labour, 1)])
    chain.enter("a", pace)
    return chain


def slow_ahead():
    """On a way of labour 6 the quick one, a with pail 1, walks behind the slow one, z with pail 0."""
    chain = Chain([(6, 1)])
    chain.enter("z", 2)
    chain.enter("a", 4)
    return chain


class RefusalCase(unittest.TestCase):
    def assertRefused(self, refusal, chain, deed, *things):
        """Refused just so, and nothing changed by it."""
        before = standing(chain)
        with self.assertRaises(refusal) as caught:
            getattr(chain, deed)(*things)
        self.assertIs(type(caught.exception), refusal)
        self.assertEqual(standing(chain), before)
