"""rankedchains.chains: promises [15] and [16]."""

import itertools
import unittest

from rankedchains.chains import (
    chain_in_order,
    derived_by,
    equation_of,
    is_chain,
    least_common,
    need_chain,
    principal_by,
)
from rankedchains.errors import BadChain, BadRanking, OutOfPlace
from things import NO_CHAINS, NO_DERIVATIVES, NO_RANKINGS, Odd, Yes, but, chain, d, p, refused_in_order, things

UV = ("total", ("u", "v"), ("x", "y"))
YX = ("total", ("u", "v"), ("y", "x"))
NAMES = ("names", ("u", "v"), ("x", "y"))
ONE_AXIS = ("total", ("u", "v"), ("x",))
HEAT = chain("u.xx = u.y")
WRONG_PAIRS = things() + [
    [d("u"), p("v")],
    (d("u"), p("v"), ()),
    (d("u"),),
    (d("w"), p("v")),
    (d("u"), p("w")),
    (d("u"), [()]),
    (d("u"), ((), ())),
    (d("u"), ((((), (2, 2))),)),
    (("u", True, 0), ()),
    (p("u"), d("u")),
    (d("u"), Odd()),
    (Odd(), ()),
    (Yes(), Yes()),
    (list(d("u")), ()),
]


class Derivatives(unittest.TestCase):
    def test_derived_by(self):
        for one, other, due in (
            ("u", "u", (0, 0)),
            ("u", "u.xxy", (2, 1)),
            ("u.x", "u.xxy", (1, 1)),
            ("u.xxy", "u.x", None),
            ("u.x", "u.yyy", None),
            ("u.xy", "u.xy", (0, 0)),
            ("u.xx", "u.xy", None),
            ("u", "v.x", None),
        ):
            self.assertEqual(derived_by(d(one), d(other)), due)
        self.assertEqual(derived_by(one=d("u.y"), other=d("u.yy")), (0, 1))

    def test_least_common(self):
        for one, other, due in (
            ("u.xx", "u.y", "u.xxy"),
            ("u", "u.x", "u.x"),
            ("u.xy", "u.xy", "u.xy"),
            ("u.xyy", "u.xxy", "u.xxyy"),
        ):
            self.assertEqual(least_common(d(one), d(other)), d(due))
            self.assertEqual(least_common(d(other), d(one)), d(due))
        self.assertIsNone(least_common(d("u"), d("v")))
        self.assertEqual(least_common(one=d("u"), other=d("u.y")), d("u.y"))

    def test_whatever_is_derived_of_both_is_derived_of_it(self):
        some = [("u", by_x, by_y) for by_x in range(4) for by_y in range(4)]
        for one, other, third in itertools.product(some, repeat=3):
            both = derived_by(one, third) is not None and derived_by(other, third) is not None
            self.assertEqual(derived_by(least_common(one, other), third) is not None, both)

    def test_refused(self):
        no_derivatives = but(("u", 0, 0)) + [("u", -1, 0), ("u", True, 0), ("U", 0, 0)]
        for call in (derived_by, least_common):
            refused_in_order(
                self, call, (d("u"), d("v")), ((OutOfPlace, no_derivatives), (OutOfPlace, no_derivatives))
            )


class Chains(unittest.TestCase):
    def stands(self, ranking, pairs):
        self.assertIsNone(need_chain(ranking, pairs))
        self.assertIs(is_chain(ranking, pairs), True)

    def refused(self, ranking, pairs, place):
        self.assertIs(is_chain(ranking, pairs), False)
        with self.assertRaises(BadChain) as caught:
            need_chain(ranking, pairs)
        self.assertEqual(caught.exception.place, place)

    def test_chains(self):
        for ranking, pairs in (
            (UV, ()),
            (UV, HEAT),
            (YX, chain("u.yy = u.xx + u^3")),
            (UV, chain("v = 0", "u = 0")),
            (UV, chain("v.x = v.y + 1", "u.x = v*v.y^2")),
            (UV, chain("u.yy = 0", "u.xx = u.xy")),
            (NAMES, chain("v.xx = v.y", "u = v.x^9 - 1/2")),
            (ONE_AXIS, chain("v.x = u", "u.x = v")),
        ):
            self.stands(ranking, pairs)
        self.assertIs(is_chain(ranking=UV, thing=HEAT), True)
        self.assertIsNone(need_chain(ranking=UV, chain=HEAT))

    def test_no_tuple(self):
        for thing in (*[thing for thing in things() if type(thing) is not tuple], list(HEAT)):
            self.refused(UV, thing, None)

    def test_form(self):
        for pair in WRONG_PAIRS:
            self.refused(UV, (pair,), ("form", 0))
            self.refused(UV, (*HEAT, pair), ("form", 1))
            self.refused(UV, (*HEAT, *HEAT, pair, pair), ("form", 2))
        self.refused(ONE_AXIS, HEAT, ("form", 0))
        self.refused(ONE_AXIS, chain("u.xy = 0"), ("form", 0))

    def test_rising(self):
        self.refused(UV, chain("u = 0", "v = 0"), ("rising", 1))
        self.refused(UV, chain("v = 0", "v = 0"), ("rising", 1))
        self.refused(UV, chain("v = 0", "v = 1"), ("rising", 1))
        self.refused(UV, chain("v.xx = 0", "u.xx = 0", "v.yyy = 0", "u.y = 0", "v = 0"), ("rising", 3))
        self.refused(YX, chain("u.yy = 0", "u.xx = u.xy"), ("rising", 1))

    def test_derived(self):
        self.refused(UV, chain("u = 0", "u.x = 0"), ("derived", 1))
        self.refused(UV, chain("v.x = 0", "u.x = 0", "u.xxy = 0", "v.xxx = 0"), ("derived", 2))
        self.refused(UV, chain("v.y = 0", "u.x = 0", "v.xy = 0"), ("derived", 2))
        self.stands(UV, chain("u.yy = 0", "u.xy = 0", "u.xxx = 0"))

    def test_above(self):
        self.refused(UV, chain("u = u"), ("above", 0))
        self.refused(UV, chain("u.x = u.xx"), ("above", 0))
        self.refused(UV, chain("v = u"), ("above", 0))
        self.refused(UV, chain("u.y = v*u.x - 1"), ("above", 0))
        self.refused(UV, chain("v.x = 1", "u.x = v.yy + u"), ("above", 1))
        self.stands(YX, chain("u.y = v*u.x - 1"))
        self.refused(("names", ("u", "v"), ("x",)), chain("v.xx = u"), ("above", 0))
        self.stands(("names", ("v", "u"), ("x",)), chain("v = u.xx"))

    def test_principal(self):
        self.refused(UV, chain("v = 0", "u = v"), ("principal", 1))
        self.refused(UV, chain("v.x = v.y", "u.xx = u*v.xx - 1"), ("principal", 1))
        self.refused(UV, chain("u.x = u.y", "v.xx = u*u.x", "u.yyy = 0"), ("principal", 1))
        self.refused(UV, chain("u.y = 0", "v.xx = u.y", "u.xx = u.xy"), ("principal", 1))
        self.refused(UV, chain("v.y = u.y", "u.y = 0"), ("above", 0))
        self.stands(UV, chain("v.x = v.y", "u.xx = u*v.yy - 1"))

    def test_the_first_word_then_the_first_number(self):
        self.refused(UV, (*chain("u = u", "v = u"), 0), ("form", 2))
        self.refused(UV, chain("u.x = u.xx", "u.xx = 0", "v = 0"), ("rising", 2))
        self.refused(UV, chain("v = v", "u = v", "u.x = u.xx"), ("derived", 2))
        self.refused(UV, chain("v = 0", "u.x = v", "u.yy = v*u.xx"), ("above", 2))
        self.refused(UV, chain("v = 0", "u.y = v", "u.x = u.y", "u.yy = v"), ("derived", 3))
        self.refused(UV, chain("v = 0", "u.y = v", "u.x = u.y"), ("principal", 1))

    def test_rankings(self):
        for call in (need_chain, is_chain):
            for thing in NO_RANKINGS:
                for pairs in (HEAT, 3, [], Odd()):
                    with self.assertRaises(BadRanking):
                        call(thing, pairs)


class Pairs(unittest.TestCase):
    def test_equations(self):
        self.assertEqual(equation_of(UV, HEAT[0]), p("u.xx - u.y"))
        self.assertEqual(equation_of(ranking=UV, pair=(d("u"), ())), p("u"))
        self.assertEqual(equation_of(UV, (d("u"), p("2*u + 3"))), p("-u - 3"))
        self.assertEqual(equation_of(UV, (d("u"), p("u"))), ())
        refused_in_order(
            self, equation_of, (UV, HEAT[0]), ((BadRanking, NO_RANKINGS), (OutOfPlace, WRONG_PAIRS))
        )

    def test_in_order(self):
        pairs = list(chain("u.xx = u.y", "v = 1", "u.yy = 0", "u = u"))
        due = chain("v = 1", "u = u", "u.yy = 0", "u.xx = u.y")
        kept = list(pairs)
        self.assertEqual(chain_in_order(UV, pairs), due)
        self.assertEqual(chain_in_order(ranking=UV, pairs=tuple(pairs)), due)
        self.assertEqual(chain_in_order(YX, pairs), chain("v = 1", "u = u", "u.xx = u.y", "u.yy = 0"))
        self.assertEqual(pairs, kept)
        self.assertEqual(chain_in_order(UV, []), ())
        self.assertEqual(chain_in_order(UV, ()), ())
        self.assertIs(type(chain_in_order(UV, pairs)), tuple)

    def test_in_order_refused(self):
        no_lists = [thing for thing in things() if type(thing) not in (list, tuple)]
        lists = [[pair] for pair in WRONG_PAIRS] + [(HEAT[0], pair) for pair in WRONG_PAIRS] + [HEAT[0]]
        refused_in_order(
            self,
            chain_in_order,
            (UV, list(HEAT)),
            ((BadRanking, NO_RANKINGS), (OutOfPlace, no_lists + lists + [{HEAT[0]: 1}])),
        )

    def test_principal_by(self):
        pairs = chain("v.x = 0", "u.yy = 0", "u.xx = u.y")
        for text, due in (
            ("v", None),
            ("v.x", 0),
            ("v.xxyy", 0),
            ("v.yyy", None),
            ("u", None),
            ("u.xy", None),
            ("u.yy", 1),
            ("u.xxyy", 1),
            ("u.xx", 2),
            ("u.xxy", 2),
        ):
            self.assertEqual(principal_by(UV, pairs, d(text)), due)
        self.assertIsNone(principal_by(UV, (), d("u")))
        self.assertEqual(principal_by(ranking=UV, chain=HEAT, derivative=d("u.xxx")), 0)

    def test_principal_by_refused(self):
        no_chains = NO_CHAINS + [chain("u = u"), list(HEAT)]
        refused_in_order(
            self,
            principal_by,
            (UV, HEAT, d("u")),
            ((BadRanking, NO_RANKINGS), (BadChain, no_chains), (OutOfPlace, NO_DERIVATIVES)),
        )


if __name__ == "__main__":
    unittest.main()
