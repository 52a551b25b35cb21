"""rankedchains.followspaper: FOLLOWS PAPERS, made and looked at [66], [67]."""

import random
import unittest

from rankedchains.cases import cases
from rankedchains.coverpaper import check_cover, cover_paper
from rankedchains.errors import BadPaper, BadPolynomial, BadRanking, TooGreat
from rankedchains.follows import word_of
from rankedchains.followspaper import check_follows, follows_paper
from rankedchains.polynomials import derived, plus, raised, scaled
from rankedchains.series import number_of
from systems import NAMES, ONE_AXIS, OPEN, UV, polynomials_of, some_polynomial, some_products, tree_with
from things import (
    NO_CHAINS_OF_UV,
    NO_EQUATIONS,
    NO_POLYNOMIALS,
    NO_RANKINGS,
    WITH_NONE,
    Odd,
    Yes,
    but,
    chain,
    d,
    p,
    refused_in_order,
    things,
)

UVW = ("total", ("u", "v", "w"), ("x", "y"))
KNOT = ("knot", (), (), ())
# u*v*(v.x^2 - v): v is nought, u is, or there is a knot.
THREE = polynomials_of("u*v*v.x^2 - u*v^2")
# v*w*(u.x^2 - u), by w and v, then the knot; with u.y^2 - u everywhere, three knots.
KNOTS = polynomials_of("v*w*u.x^2 - v*w*u", "u.y^2 - u")


class Told(unittest.TestCase):
    def comes_out(self, ranking, equations, one, word):
        told = follows_paper(ranking, equations, one)
        if word == "open":
            self.assertIsNone(told)
            return
        self.assertEqual(told[0], word)
        self.assertEqual(check_follows(ranking, equations, one, told), word)
        if word == "holds":
            due = [(kind, pairs) for kind, _, pairs, _ in cases(ranking, equations)]
            self.assertEqual(check_cover(ranking, equations, told[1]), due)
            self.assertEqual(len(told[2]), [kind for kind, _ in due].count("knot"))
        else:
            self.assertNotEqual(number_of(ranking, told[1], one, data=told[2]), (0, 1))

    def test_by_hand(self):
        for ranking, texts, text, word in (
            (UV, (), "0", "holds"),
            (UV, (), "u", "breaks"),
            (UV, (), "1", "breaks"),
            (UV, ("1",), "u", "holds"),
            (UV, ("u.x - v",), "u.xy - v.y", "holds"),
            (UV, ("u.x - v",), "u.y", "breaks"),
            (UV, ("u*v",), "u.x*v", "holds"),
            (UV, ("u.x^2 - u",), "3*u.x^2 - 3*u", "holds"),
            (UV, ("u.x^2 - u",), "u", "open"),
            (UVW, ("u.x^2 - u", "v^2 - w"), "v^2 - w - 1/2*u.x^2 + 1/2*u", "holds"),
            (ONE_AXIS, ("u*u.x",), "u.xx", "holds"),
            (NAMES, ("u - v", "u*w - v*u"), "v.x*w - v.x*v", "holds"),
            (NAMES, ("u - v", "u*w - v*u"), "w", "breaks"),
        ):
            self.comes_out(ranking, polynomials_of(*texts), p(text), word)
        told = follows_paper(ranking=UV, equations=(), polynomial=p("u"))
        self.assertEqual(check_follows(ranking=UV, equations=(), polynomial=p("u"), paper=told), "breaks")

    def test_many_knots(self):
        self.assertEqual([one[0] for one in cases(UVW, KNOTS)], ["knot"] * 3)
        for text, word in (
            ("u.y^2 - u", "holds"),
            ("2*v*w*u.x^2 - 2*v*w*u + u.y^2 - u", "holds"),
            ("v*w*u.x^2 - v*w*u", "holds"),
            ("u.x^2 - u", "open"),
            ("v*w", "open"),
        ):
            self.comes_out(UVW, KNOTS, p(text), word)

    def test_by_chance(self):
        chance = random.Random(671)
        words, sums = [], 0
        for ranking, equations, leaves in some_products(672, 120):
            some = [some_polynomial(chance, ranking, 1), *equations, derived(equations[0], "x")]
            some.append(plus(scaled(equations[0], (-2, 3)), equations[-1]))
            for one in some:
                word = word_of(ranking, equations, one)
                self.comes_out(ranking, equations, one, word)
                words.append(word)
                sums += word == "holds" and any(leaf[0] == "knot" for leaf in leaves)
        for word in ("holds", "breaks", "open"):
            self.assertGreater(words.count(word), 10)
        self.assertGreater(sums, 20)

    def test_too_great(self):
        for equations, one in ((polynomials_of("u^9"), ()), ((), raised(p("u"), 17))):
            with self.assertRaises(TooGreat):
                follows_paper(UV, equations, one)

    def test_refused_in_order(self):
        bad = ((BadRanking, NO_RANKINGS), (BadPolynomial, NO_EQUATIONS + WITH_NONE), (BadPolynomial, NO_POLYNOMIALS))
        refused_in_order(self, follows_paper, (UV, polynomials_of("u"), p("v")), bad)
        paper = follows_paper(UV, polynomials_of("u"), p("u"))
        refused_in_order(self, check_follows, (UV, polynomials_of("u"), p("u"), paper), (*bad, (BadPaper, things())))
        for equations, one, number in ((polynomials_of("u", "w"), None, 1), (polynomials_of("u^9"), p("w"), None)):
            for call in (follows_paper, lambda *rest: check_follows(*rest, None)):
                with self.assertRaises(BadPolynomial) as caught:
                    call(UV, equations, one)
                self.assertEqual(caught.exception.number, number)


class MadeOtherwise(unittest.TestCase):
    def test_breaks_by_any_chain(self):
        # By a CHAIN that isn't that of a LEAF, and DATA of more than wants.
        equations = polynomials_of("u*v")
        data = ((d("u"), (3, 1)), (d("u.y"), (0, 1)), (d("u.x"), (1, 2)))
        paper = ("breaks", chain("v = 0", "u.xx = u"), data)
        self.assertEqual(check_follows(UV, equations, p("u.xx - 1"), paper), "breaks")
        self.assertEqual(check_follows(UV, equations, p("u.x - u"), paper), "breaks")
        self.assertEqual(check_follows(UV, (), p("1"), ("breaks", (), ())), "breaks")

    def test_numbers_are_never_too_great(self):
        paper = ("breaks", (), ((d("u"), (2, 1)),))
        self.assertEqual(check_follows(UV, (), raised(p("u"), 40), paper), "breaks")
        with self.assertRaises(TooGreat):
            follows_paper(UV, (), raised(p("u"), 40))

    def test_holds_by_any_tree(self):
        one = p("u*v.x^2 - u*v")
        rows = (("given", 0), ("sum", ((p("-2"), 0),)))
        for sums in ((((1, 1), 0),), (((-1, 2), 1),), (((3, 1), 0), ((1, 1), 1)), (((0, 1), 1), ((1, 1), 0))):
            self.assertEqual(check_follows(UV, (one,), one, ("holds", ("knot", rows, (), ()), (sums,))), "holds")
        # The rows of a knot may be any that follow; by its CHAIN they have their NORMAL FORMS.
        more = (one, p("v.x - w"))
        rows = (("given", 0), ("given", 1), ("sum", ((p("u.x"), 1),)), ("derived", 1, "y"))
        tree = ("knot", rows, chain("v.x = w"), (1,))
        for text, sums in (
            ("u*w^2 - u*v", (((1, 1), 0),)),
            ("u*v.x^2 - u*v + v.xx - w.x", (((1, 1), 0), ((5, 1), 3))),
            ("v.xy - w.y", ()),
            ("v.x*u - u*w", (((7, 1), 2),)),
        ):
            self.assertEqual(check_follows(UVW, more, p(text), ("holds", tree, (sums,))), "holds")
        tree = ("contradiction", (("given", 0),), 0)
        self.assertEqual(check_follows(UV, polynomials_of("-3"), p("u"), ("holds", tree, ())), "holds")

    def test_what_holds_may_be_shown_where_cases_tell_open(self):
        # u*(u.x^2 - u) isn't IN the SPAN of u.x^2 - u, but a row may be it.
        equations = polynomials_of("u.x^2 - u")
        one = p("u*u.x^2 - u^2")
        self.assertEqual(word_of(UV, equations, one), "open")
        tree = ("knot", (("given", 0), ("sum", ((p("u"), 0),))), (), ())
        self.assertEqual(check_follows(UV, equations, one, ("holds", tree, ((((1, 1), 1),),))), "holds")


class Refused(unittest.TestCase):
    def refused(self, ranking, equations, one, paper, place):
        with self.assertRaises(BadPaper) as caught:
            check_follows(ranking, equations, one, paper)
        self.assertEqual(caught.exception.place, place)

    def test_form(self):
        for thing in (
            *things(),
            ("holds",),
            ("breaks", ()),
            ("holds", KNOT),
            ("holds", KNOT, (), ()),
            ("breaks", (), (), ()),
            ("open", (), ()),
            ["holds", KNOT, ((),)],
            (Odd(), (), ()),
            (Yes(), (), ()),
            (b"holds", KNOT, ((),)),
            ("knot", (), (), ()),
        ):
            self.refused(UV, (), (), thing, None)

    def test_breaks(self):
        equations = polynomials_of("u*v")
        good = ("breaks", chain("v = 0"), ((d("u"), (1, 1)),))
        self.assertEqual(check_follows(UV, equations, p("u"), good), "breaks")
        for thing in (*NO_CHAINS_OF_UV, OPEN[1], Odd(), Yes()):
            self.refused(UV, equations, p("u"), ("breaks", thing, good[2]), "chain")
            self.refused(UV, equations, p("u"), ("breaks", thing, None), "chain")
        for pairs in ((), chain("u.x = 0"), chain("v.x = 0")):
            self.refused(UV, equations, p("u"), ("breaks", pairs, good[2]), "equation")
            self.refused(UV, equations, p("u"), ("breaks", pairs, None), "equation")
        self.refused(UV, polynomials_of("v", "u"), p("u"), good, "equation")
        for thing in (
            *things(),
            list(good[2]),
            ((d("v"), (1, 1)),),
            ((d("u"), (0, 1)),),
            ((d("u.x"), (1, 1)),),
            ((d("u"), (2, 2)),),
            (*good[2], *good[2]),
            (None,),
            Odd(),
        ):
            self.refused(UV, equations, p("u"), ("breaks", good[1], thing), "data")
        # DATA by which nothing is broken.
        self.refused(UV, equations, p("v"), good, "data")
        self.refused(UV, equations, p("u - 1"), good, "data")
        self.refused(UV, equations, (), good, "data")

    def test_trees(self):
        tree = cover_paper(UV, THREE)
        one = THREE[0]
        good = follows_paper(UV, THREE, one)
        self.assertEqual(check_follows(UV, THREE, one, ("holds", tree, good[2])), "holds")
        for way in ((), (0,), (1,), (2,)):
            for thing in (None, (), Odd(), ("closed",)):
                self.refused(UV, THREE, one, ("holds", tree_with(tree, way, thing), None), (way, "form"))
        self.refused(UV, THREE, one, ("holds", tree_with(tree, (1,), ("closed", (), None, ())), good[2]), ((1,), "chain"))
        self.refused(UV, THREE, one, ("holds", tree_with(tree, (0,), ("closed", (), (), ())), None), ((0,), "equation"))
        self.refused(UV, THREE, one, ("holds", (*tree[:3], tree[3][:2]), None), ((), "trees"))

    def test_closed_ones(self):
        # v is nought, u is nought, and a knot: what breaks by each is told by its number among those closed.
        tree = cover_paper(UV, THREE)
        told = check_cover(UV, THREE, tree)
        self.assertEqual([word for word, _ in told], ["closed", "closed", "knot"])
        self.assertEqual([pairs for _, pairs in told[:2]], [chain("v = 0"), chain("u = 0")])
        for text, place in (("v", 1), ("u", 0), ("u + v", 0), ("v.x*v.y", 1), ("1", 0)):
            for sums in (None, ((),), ()):
                self.refused(UV, THREE, p(text), ("holds", tree, sums), ("closed", place))
        # Knots aren't counted among them.
        equations = polynomials_of("u*v^2 - u*v")
        closed = ("closed", (("given", 1),), chain("u = 0"), (0,))
        tree = ("split", (("given", 0),), 0, (KNOT, closed, KNOT))
        self.refused(UV, equations, p("v.x"), ("holds", tree, None), ("closed", 0))
        self.refused(UV, equations, p("u.x"), ("holds", tree, ((),)), ("sum", 0))

    def test_sums(self):
        good = follows_paper(UVW, KNOTS, p("u.y^2 - u"))
        self.assertEqual(len(good[2]), 3)
        one = p("u.y^2 - u")
        for thing in things():
            if not isinstance(thing, tuple):
                self.refused(UVW, KNOTS, one, ("holds", good[1], thing), "sums")
        self.refused(UVW, KNOTS, one, ("holds", good[1], list(good[2])), "sums")
        for many in range(3):
            self.refused(UVW, KNOTS, one, ("holds", good[1], good[2][:many]), ("sum", many))
        for more in ((), (None,), good[2][0]):
            self.refused(UVW, KNOTS, one, ("holds", good[1], (*good[2], more)), ("sum", 3))
        self.refused(UV, (), (), ("holds", ("closed", (), (), ()), ((),)), ("sum", 0))

    def test_each_sum(self):
        one = p("u.y^2 - u")
        good = follows_paper(UVW, KNOTS, one)
        for at, pairs in enumerate(good[2]):
            self.assertEqual(len(pairs), 1)
            (number, row), = pairs
            for thing in (
                *but(()),
                (),
                [(number, row)],
                ([number, row],),
                ((number,),),
                ((number, row, row),),
                ((2, 1), row),
                (((2, 1), row),),
                (((2, 2), row),),
                ((1, row),),
                ((number, -1),),
                ((number, 99),),
                ((number, True),),
                ((number, None),),
                ((number, row), None),
                ((number, row), (number, row)),
                ((Odd(), row),),
                ((number, Odd()),),
                (Yes(),),
            ):
                for rest in (good[2][at + 1 :], (None,), ()):
                    sums = (*good[2][:at], thing, *rest)
                    self.refused(UVW, KNOTS, one, ("holds", good[1], sums), ("sum", at))

    def test_rows_of_other_knots(self):
        # Rows are those of the very knot: what is a row of another one is none here.
        equations = polynomials_of("u*v")
        left = ("knot", (("given", 1),), (), ())
        right = ("knot", (("given", 0), ("given", 1)), (), ())
        tree = ("split", (("given", 0),), 0, (left, right))
        one = p("v")
        self.refused(UV, equations, one, ("holds", tree, ((((1, 1), 0),), (((1, 1), 1),))), ("sum", 1))
        self.refused(UV, equations, one, ("holds", tree, ((((1, 1), 1),), ())), ("sum", 0))
        left = ("knot", (("given", 0),), (), ())
        tree = ("split", (("given", 0),), 0, (left, right))
        self.assertEqual(
            check_follows(UV, equations, p("u*v"), ("holds", tree, ((((1, 1), 0),), (((1, 1), 0),)))), "holds"
        )

    def test_in_order(self):
        tree = cover_paper(UV, THREE)
        bad_tree = tree_with(tree, (2,), None)
        for paper, place in (
            (("holds", bad_tree, None), ((2,), "form")),
            (("holds", tree, None), ("closed", 0)),
        ):
            self.refused(UV, THREE, p("u"), paper, place)
        self.refused(UV, THREE, (), ("holds", tree, None), "sums")
        self.refused(UV, THREE, (), ("holds", tree, (None, None)), ("sum", 0))


class TooGreatOnes(unittest.TestCase):
    def test_breaks(self):
        great = chain("u.y = u^9", "u.x = u^8*v")
        with self.assertRaises(TooGreat):
            check_follows(UV, (), p("u"), ("breaks", great, ((d("u"), (1, 1)),)))
        for paper, place in ((("breaks", great, None), "data"), (("breaks", great, ()), "data")):
            with self.assertRaises(BadPaper) as caught:
                check_follows(UV, (), p("u"), paper)
            self.assertEqual(caught.exception.place, place)
        equations = (p("u - v^9"), raised(p("u"), 2))
        with self.assertRaises(TooGreat):
            check_follows(NAMES, equations, p("v"), ("breaks", chain("u = v^9"), ((d("v"), (1, 1)),)))

    def test_holds(self):
        one = raised(p("u"), 17)
        tree = ("closed", (), (), ())
        with self.assertRaises(TooGreat):
            check_follows(UV, (), one, ("holds", tree, ()))
        with self.assertRaises(TooGreat):
            check_follows(UV, (), one, ("holds", KNOT, ((),)))
        for paper, place in (
            (("holds", tree, None), "sums"),
            (("holds", tree, ((),)), ("sum", 0)),
            (("holds", KNOT, ()), ("sum", 0)),
            (("holds", KNOT, ((), ())), ("sum", 1)),
        ):
            with self.assertRaises(BadPaper) as caught:
                check_follows(UV, (), one, paper)
            self.assertEqual(caught.exception.place, place)


if __name__ == "__main__":
    unittest.main()
