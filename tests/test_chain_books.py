"""Chains: ledgers, stories, and what they come to together [12], [13], [14]."""

import unittest

from cases import RefusalCase, lone, slow_ahead, three
from pailchain.chain import Chain
from pailchain.errors import NoHand, NoPail


class LedgerTest(RefusalCase):
    def test_a_new_hand(self):
        chain = three()
        for name in "abc":
            self.assertEqual(chain.ledger(name), ((0, 1), (0, 1), (0, 1)))

    def test_slow_to_quick_loses_nothing(self):
        chain = three()
        chain.go((50, 1))
        for pace, name in enumerate("abc", 1):
            self.assertEqual(chain.ledger(name), ((50, 1), (50 * pace, 1), (0, 1)))

    def test_it_is_a_tuple_of_three_amounts(self):
        chain = three()
        chain.go((5, 7))
        found = chain.ledger("b")
        self.assertIs(type(found), tuple)
        self.assertEqual(found, ((5, 7), (10, 7), (0, 1)))
        self.assertEqual({type(part) for part in found}, {tuple})

    def test_who_walks_behind_a_slower_one_loses(self):
        chain = slow_ahead()
        chain.go((1, 2))
        self.assertEqual(chain.ledger("a"), ((1, 2), (1, 1), (1, 1)))
        chain.go((5, 2))
        self.assertEqual(chain.ledger("a"), ((3, 1), (6, 1), (6, 1)))
        self.assertEqual(chain.ledger("z"), ((3, 1), (6, 1), (0, 1)))

    def test_several_behind_one_another(self):
        chain = Chain([(6, 1)])
        chain.enter("c", 1)
        chain.enter("b", 5)
        chain.enter("a", 3)
        chain.go((2, 1))
        self.assertEqual(chain.ledger("a"), ((2, 1), (2, 1), (4, 1)))
        self.assertEqual(chain.ledger("b"), ((2, 1), (2, 1), (8, 1)))
        self.assertEqual(chain.ledger("c"), ((2, 1), (2, 1), (0, 1)))

    def test_another_pace(self):
        chain = lone(9, 2)
        chain.go((1, 1))
        self.assertEqual(chain.ledger("a"), ((1, 1), (2, 1), (0, 1)))
        chain.set_pace("a", 5)
        self.assertEqual(chain.ledger("a"), ((1, 1), (2, 1), (0, 1)))
        chain.go((1, 1))
        self.assertEqual(chain.ledger("a"), ((2, 1), (7, 1), (0, 1)))

    def test_another_pace_behind_a_slower_one(self):
        chain = slow_ahead()
        chain.go((1, 1))
        self.assertEqual(chain.ledger("a"), ((1, 1), (2, 1), (2, 1)))
        chain.set_pace("a", 1)
        chain.go((1, 1))
        self.assertEqual(chain.ledger("a"), ((2, 1), (3, 1), (2, 1)))
        # From place 3 on, at pace 12, a comes up to z at 21/5 and walks behind it to the fire.
        chain.set_pace("a", 12)
        chain.go((1, 1))
        self.assertEqual(chain.ledger("a"), ((3, 1), (6, 1), (11, 1)))
        self.assertEqual(chain.ledger("z"), ((3, 1), (6, 1), (0, 1)))

    def test_the_slower_one_gets_another_pace(self):
        chain = slow_ahead()
        chain.go((1, 1))
        chain.set_pace("z", 12)
        chain.go((1, 6))
        self.assertEqual(chain.ledger("a"), ((7, 6), (8, 3), (2, 1)))
        self.assertEqual(chain.ledger("z"), ((7, 6), (4, 1), (0, 1)))

    def test_hands_that_changed_places(self):
        chain = slow_ahead()
        chain.go((1, 1))
        chain.swap("a")
        chain.go((1, 2))
        self.assertEqual(chain.ledger("a"), ((3, 2), (4, 1), (2, 1)))
        self.assertEqual(chain.ledger("z"), ((3, 2), (3, 1), (0, 1)))

    def test_kept_for_who_left_and_gone_on_with_when_it_joins_again(self):
        chain = lone(6, 2)
        chain.call("a")
        chain.go((10, 1))
        self.assertEqual(chain.ledger("a"), ((3, 1), (6, 1), (0, 1)))
        chain.enter("a", 3)
        self.assertEqual(chain.ledger("a"), ((3, 1), (6, 1), (0, 1)))
        chain.go((1, 1))
        self.assertEqual(chain.ledger("a"), ((4, 1), (9, 1), (0, 1)))
        chain.call("a")
        chain.outs(1)
        self.assertEqual(chain.ledger("a"), ((5, 1), (12, 1), (0, 1)))
        chain.go((7, 1))
        self.assertEqual(chain.ledger("a"), ((5, 1), (12, 1), (0, 1)))

    def test_what_was_lost_is_kept_too(self):
        chain = slow_ahead()
        chain.call("a")
        chain.outs(1)
        self.assertEqual(chain.ledger("a"), ((3, 1), (6, 1), (6, 1)))
        chain.enter("a", 5)
        chain.go((1, 1))
        self.assertEqual(chain.ledger("a"), ((4, 1), (8, 1), (9, 1)))

    def test_no_hand(self):
        chain = three()
        self.assertRefused(NoHand, chain, "ledger", "d")
        self.assertRefused(NoHand, Chain([(1, 1)]), "ledger", "a")
        chain.enter("d", 1)
        self.assertEqual(chain.ledger("d"), ((0, 1), (0, 1), (0, 1)))


class StoryTest(RefusalCase):
    def test_a_pail_that_was_not_yet_walked(self):
        self.assertEqual([three().story(pail) for pail in range(3)], [[], [], []])

    def test_on_the_way(self):
        chain = three()
        chain.go((5, 2))
        self.assertEqual(chain.story(0), [("c", (0, 1), (15, 2))])
        self.assertEqual(chain.story(1), [("b", (0, 1), (5, 1))])
        self.assertEqual(chain.story(2), [("a", (0, 1), (5, 2))])

    def test_handed_on_to_the_fire(self):
        chain = three()
        chain.go((5, 1))
        self.assertEqual(chain.story(0), [("c", (0, 1), (12, 1))])
        self.assertEqual(chain.story(1), [("b", (0, 1), (8, 1)), ("c", (8, 1), (11, 1))])
        self.assertEqual(chain.story(2), [("a", (0, 1), (4, 1)), ("b", (4, 1), (6, 1))])
        self.assertEqual(chain.story(3), [("a", (0, 1), (1, 1))])
        chain.outs(1)
        self.assertEqual(chain.story(1), [("b", (0, 1), (8, 1)), ("c", (8, 1), (12, 1))])

    def test_rows_in_which_nothing_was_walked_are_left_out(self):
        chain = slow_ahead()
        chain.outs(1)
        self.assertEqual(chain.story(0), [("z", (0, 1), (6, 1))])
        self.assertEqual(chain.story(1), [("a", (0, 1), (6, 1))])
        self.assertEqual(chain.story(2), [])
        self.assertEqual(chain.story(3), [])

    def test_hands_that_changed_places(self):
        chain = three()
        chain.go((2, 1))
        chain.swap("a")
        self.assertEqual(chain.story(1), [("b", (0, 1), (4, 1))])
        self.assertEqual(chain.story(2), [("a", (0, 1), (2, 1))])
        chain.go((1, 1))
        self.assertEqual(chain.story(1), [("b", (0, 1), (4, 1)), ("a", (4, 1), (5, 1))])
        self.assertEqual(chain.story(2), [("a", (0, 1), (2, 1)), ("b", (2, 1), (4, 1))])
        chain.go((2, 1))
        self.assertEqual(chain.story(0), [("c", (0, 1), (12, 1))])
        self.assertEqual(chain.story(1), [("b", (0, 1), (4, 1)), ("a", (4, 1), (6, 1)), ("c", (6, 1), (9, 1))])
        self.assertEqual(chain.story(2), [("a", (0, 1), (2, 1)), ("b", (2, 1), (6, 1)), ("a", (6, 1), (7, 1))])
        self.assertEqual(chain.story(3), [("b", (0, 1), (2, 1))])

    def test_two_rows_of_one_name_are_one(self):
        chain = three()
        chain.go((2, 1))
        chain.swap("a")
        chain.swap("b")
        self.assertEqual(chain.hands(), ["a", "b", "c"])
        chain.go((1, 1))
        self.assertEqual(chain.story(1), [("b", (0, 1), (6, 1))])
        self.assertEqual(chain.story(2), [("a", (0, 1), (3, 1))])
        chain.go((2, 1))
        self.assertEqual(chain.story(1), [("b", (0, 1), (8, 1)), ("c", (8, 1), (11, 1))])

    def test_one_name_that_left_and_joined_again(self):
        chain = Chain([(6, 1)])
        chain.enter("z", 3)
        chain.enter("a", 1)
        chain.call("a")
        chain.outs(1)
        self.assertEqual((chain.hands(), chain.pail("z"), chain.place("z")), (["z"], 1, (2, 1)))
        # At the same moment a takes the pail back, ahead of which z has not walked it.
        chain.enter("a", 1)
        chain.swap("a")
        chain.go((1, 2))
        self.assertEqual(chain.story(1), [("a", (0, 1), (5, 2))])
        self.assertEqual(chain.story(2), [("z", (0, 1), (3, 2))])

    def test_who_left_stays_in_the_story(self):
        chain = three()
        chain.call("b")
        chain.go((9, 2))
        self.assertEqual(chain.story(1), [("b", (0, 1), (8, 1)), ("c", (8, 1), (19, 2))])
        self.assertEqual(chain.story(2), [("a", (0, 1), (9, 2))])

    def test_rows_are_tuples_in_a_list(self):
        chain = three()
        chain.go((5, 1))
        self.assertIs(type(chain.story(1)), list)
        self.assertEqual({type(row) for row in chain.story(1)}, {tuple})

    def test_no_pail(self):
        chain = three()
        for pail in (-1, -3, 3, 4, 10 ** 9, -(10 ** 9), 10 ** 30):
            self.assertRefused(NoPail, chain, "story", pail)
        for pail in (0, 1, -1):
            self.assertRefused(NoPail, Chain([(1, 1)]), "story", pail)
        chain.outs(1)
        self.assertEqual(chain.story(3), [])
        self.assertRefused(NoPail, chain, "story", 4)


if __name__ == "__main__":
    unittest.main()
