"""rankedchains.conditions: what [30] says of CONDITIONS and CLOSED CHAINS."""

import random
import unittest

from rankedchains.chains import need_chain
from rankedchains.conditions import conditions, is_closed, need_closed
from rankedchains.errors import BadChain, BadRanking, TooGreat
from rankedchains.polynomials import derived, less, raised
from systems import (
    ALL,
    BY_NAMES,
    EMPTY,
    HEAT,
    NAMES,
    ONE_AXIS,
    OPEN,
    SQUARES,
    SWING,
    TANGLED,
    UV,
    WAVE,
    conditions_by_hand,
    some_chain,
    sum_of_terms,
)
from things import NO_CHAINS_OF_UV, NO_RANKINGS, chain, d, p, refused_in_order

GRID = (UV, chain("u.yyy = u", "u.xyy = 0", "u.xxy = u.y", "u.xxx = u.yy + u"))
TOO_GREAT = (UV, chain("u.y = u^9", "u.x = u^9*u"))
OPEN_THEN_TOO_GREAT = (UV, chain("v.y = v", "u.y = u^9", "v.x = v^2", "u.x = u^9*u"))


class Conditions(unittest.TestCase):
    def test_by_hand(self):
        self.assertEqual(conditions(*OPEN), [(0, 1, p("-u^2"))])
        self.assertEqual(conditions(*HEAT), [])
        self.assertEqual(conditions(*EMPTY), [])
        pairs = chain("u.y = u", "u.x = 2*u")
        self.assertEqual(conditions(UV, pairs), [(0, 1, ())])
        self.assertEqual(conditions(ranking=UV, chain=pairs), [(0, 1, ())])
        self.assertEqual(conditions(UV, chain("u.y = v", "u.x = 0")), [(0, 1, p("v.x"))])
        self.assertEqual(conditions(UV, chain("u.y = v", "v.x = 1", "u.x = 0")), [(0, 2, p("1"))])
        self.assertEqual(conditions(("total", ("u", "v"), ("y", "x")), chain("u.x = v", "u.y = 0")), [(0, 1, p("v.y"))])

    def test_of_each_two_pairs_of_one_name(self):
        told = conditions(*GRID)
        self.assertEqual([row[:2] for row in told], [(0, 1), (0, 2), (0, 3), (1, 2), (1, 3), (2, 3)])
        self.assertEqual(told, conditions_by_hand(*GRID))
        pairs = chain("v.y = 0", "u.y = 0", "v.x = 0", "u.x = 0")
        self.assertEqual(conditions(UV, pairs), [(0, 2, ()), (1, 3, ())])
        pairs = chain("w.y = 0", "v.y = 0", "v.x = 0", "u.x = w.x", "u.yy = v^2")
        self.assertEqual(conditions(NAMES, pairs), [(1, 2, ()), (3, 4, ())])

    def test_against_the_document(self):
        chance = random.Random(301)
        for ranking, pairs in ALL + (GRID,):
            self.assertEqual(conditions(ranking, pairs), conditions_by_hand(ranking, pairs))
        for ranking in (UV, NAMES, ("names", ("v", "u"), ("y", "x"))):
            for _ in range(60):
                pairs = some_chain(chance, ranking)
                need_chain(ranking, pairs)
                told = conditions(ranking, pairs)
                self.assertEqual(told, conditions_by_hand(ranking, pairs))
                self.assertIs(is_closed(ranking, pairs), all(row[2] == () for row in told))

    def test_one_axis(self):
        chance = random.Random(302)
        for ranking in (ONE_AXIS, ("names", ("u", "v", "w"), ("x",))):
            for _ in range(30):
                pairs = some_chain(chance, ranking)
                self.assertEqual(conditions(ranking, pairs), [])
                self.assertIs(is_closed(ranking, pairs), True)
                self.assertIsNone(need_closed(ranking, pairs))

    def test_the_list_is_the_askers_own(self):
        conditions(*OPEN).clear()
        self.assertEqual(conditions(*OPEN), [(0, 1, p("-u^2"))])

    def test_great_orders(self):
        pairs = ((("u", 0, 13), ()), (("u", 13, 0), ()))
        self.assertEqual(conditions(UV, pairs), [(0, 1, ())])
        pairs = ((("u", 0, 600), ()), (("u", 600, 0), p("v")))
        self.assertEqual(conditions(UV, pairs), [(0, 1, less((), derived(p("v"), "y", many=600)))])


class Closed(unittest.TestCase):
    def test_closed(self):
        for ranking, pairs in (HEAT, WAVE, SWING, SQUARES, BY_NAMES, EMPTY, (UV, chain("u.y = 2*u^2", "u.x = u^2"))):
            self.assertIs(is_closed(ranking, pairs), True)
            self.assertIsNone(need_closed(ranking, pairs))
        for ranking, pairs in (OPEN, TANGLED):
            self.assertIs(is_closed(ranking, pairs), False)
        ranking, pairs = OPEN
        self.assertIs(is_closed(ranking=ranking, chain=pairs), False)
        self.assertIsNone(need_closed(ranking=ranking, chain=()))

    def test_open_at_the_first(self):
        for pairs, place in (
            (OPEN[1], (0, 1)),
            (TANGLED[1], (1, 2)),
            (chain("v.y = v", "u.y = u", "v.x = v^2", "u.x = u^2"), (0, 2)),
            (chain("v.y = v", "u.y = u", "v.x = v", "u.x = u^2"), (1, 3)),
            (GRID[1], (0, 1)),
            (chain("u.yyy = 0", "u.xyy = 0", "u.xxy = 0", "u.xxx = u"), (1, 3)),
            (chain("u.yyy = 0", "u.xyy = 0", "u.xxy = u", "u.xxx = 0"), (0, 2)),
        ):
            with self.assertRaises(BadChain) as caught:
                need_closed(UV, pairs)
            self.assertEqual(caught.exception.place, ("open", *place))

    def test_too_great(self):
        for call in (conditions, is_closed, need_closed):
            for ranking, pairs in (TOO_GREAT, OPEN_THEN_TOO_GREAT):
                with self.assertRaises(TooGreat):
                    call(ranking, pairs)

    def test_bounds(self):
        for many in (120, 121):
            pairs = ((d("u.y"), sum_of_terms("v", many)), (d("u.x"), ()))
            if many == 120:
                self.assertEqual(conditions(NAMES, pairs), [(0, 1, derived(sum_of_terms("v", many), "x"))])
            else:
                with self.assertRaises(TooGreat):
                    conditions(NAMES, pairs)
        for power in (16, 17):
            pairs = ((d("u.y"), raised(p("v"), power)), (d("u.x"), ()))
            if power == 16:
                self.assertEqual(conditions(NAMES, pairs), [(0, 1, derived(raised(p("v"), 16), "x"))])
            else:
                with self.assertRaises(TooGreat):
                    conditions(NAMES, pairs)
        for order in (23, 24):
            # What is MET is of an ORDER one higher.
            pairs = ((d("v.x"), ()), (d("u.y"), derived(p("v"), "y", many=order)), (d("u.x"), ()))
            if order == 23:
                self.assertEqual(conditions(NAMES, pairs), [(1, 2, ())])
            else:
                with self.assertRaises(TooGreat):
                    conditions(NAMES, pairs)


class Refused(unittest.TestCase):
    def test_in_order(self):
        for call in (conditions, is_closed, need_closed):
            refused_in_order(self, call, HEAT, ((BadRanking, NO_RANKINGS), (BadChain, NO_CHAINS_OF_UV)))

    def test_places(self):
        for call in (conditions, is_closed, need_closed):
            for pairs, place in (
                (None, None),
                ([], None),
                (chain("u.y = u", "u.x = u^2") + ((),), ("form", 2)),
                (chain("u.x = u", "u.y = u^2"), ("rising", 1)),
                (chain("u.x = 0", "u.xy = 0"), ("derived", 1)),
                (chain("u.y = u", "u.x = u.xx"), ("above", 1)),
                (chain("u.y = u", "u.x = u.y"), ("principal", 1)),
            ):
                with self.assertRaises(BadChain) as caught:
                    call(UV, pairs)
                self.assertEqual(caught.exception.place, place)

    def test_what_is_handed_in_is_as_it_was(self):
        ranking, pairs = (UV, chain("u.y = u", "u.x = u^2"))
        conditions(ranking, pairs)
        self.assertEqual((ranking, pairs), OPEN)


if __name__ == "__main__":
    unittest.main()
