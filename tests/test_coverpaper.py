"""rankedchains.coverpaper: COVER PAPERS, made and looked at [66], [67]."""

import unittest

from rankedchains.cases import cases
from rankedchains.closingpaper import closing_paper, paper_rows
from rankedchains.coverpaper import check_cover, cover_paper
from rankedchains.errors import BadPaper, BadPolynomial, BadRanking, TooGreat
from rankedchains.polynomials import derived, of_derivative, raised
from systems import NAMES, ONE_AXIS, UV, polynomials_of, some_products, some_systems, tree_at, tree_with
from things import (
    NO_CHAINS_OF_UV,
    NO_EQUATIONS,
    NO_RANKINGS,
    WITH_NONE,
    Odd,
    Yes,
    but,
    chain,
    d,
    p,
    refused_in_order,
    things,
)

UVW = ("total", ("u", "v", "w"), ("x", "y"))
MINUS = p("-1")
WHOLE = p("1")
# u*v: v is nought, or u is.
SPLIT = polynomials_of("u*v")
GOOD = (
    "split",
    (("given", 0),),
    0,
    (("closed", (("given", 1),), chain("v = 0"), (0,)), ("closed", (("given", 1),), chain("u = 0"), (0,))),
)
KNOT = ("knot", (), (), ())
KNOTS = ("split", (("given", 0),), 0, (KNOT, KNOT))
DEEP = ("split", (("given", 0),), 0, (KNOTS, KNOTS))
NO_NUMBERS = [thing for thing in things() if isinstance(thing, bool) or not isinstance(thing, int)] + [-1, 10**30]


class Told(unittest.TestCase):
    def comes_out(self, ranking, equations, leaves):
        paper = cover_paper(ranking, equations)
        told = check_cover(ranking, equations, paper)
        self.assertIs(type(told), list)
        self.assertEqual(told, [(word, pairs) for word, _, pairs, _ in leaves])
        return paper

    def test_by_hand(self):
        self.assertEqual(check_cover(UV, SPLIT, GOOD), [("closed", chain("v = 0")), ("closed", chain("u = 0"))])
        for ranking, texts in (
            (UV, ()),
            (UV, ("1",)),
            (UV, ("u.x - v", "u.y")),
            (UV, ("u.x - 1", "u.y - u")),
            (UV, ("u.x^2 - u",)),
            (UV, ("u*v",)),
            (UV, ("u^2",)),
            (UV, ("u*v.x", "u.x - 1")),
            (UV, ("u^2 - u", "u.x - 1")),
            (ONE_AXIS, ("u*u.x*u.xx", "v.x - u")),
            (UVW, ("u*v", "v*w", "u*w")),
            (UVW, ("v*w", "u*v + u*w", "u.x^2*w - u*w")),
            (NAMES, ("u - v", "u*w - v*u")),
        ):
            equations = polynomials_of(*texts)
            self.comes_out(ranking, equations, cases(ranking, equations))
        paper = cover_paper(ranking=UV, equations=SPLIT)
        self.assertEqual(check_cover(ranking=UV, equations=SPLIT, paper=paper), check_cover(UV, SPLIT, GOOD))

    def test_by_chance(self):
        words = []
        for ranking, equations, leaves in some_products(661, 200):
            paper = self.comes_out(ranking, equations, leaves)
            words += [paper[0], *(one[0] for one in leaves)]
        for word in ("split", "closed", "knot", "contradiction"):
            self.assertGreater(words.count(word), 5)

    def test_without_splits(self):
        for ranking, equations, told in some_systems(662, 80):
            if told[0] != "knot":
                paper = self.comes_out(ranking, equations, cases(ranking, equations))
                rows, places = closing_paper(ranking, equations)
                due = (told[0], rows, places[0]) if told[0] == "contradiction" else (told[0], rows, told[1], places)
                self.assertEqual([part for part in paper if part != rows], [part for part in due if part != rows])

    def test_behind_the_twelfth(self):
        equations = tuple(of_derivative(("w", order, 1)) for order in range(10)) + polynomials_of("u*v", "u.x*v.x - u.x")
        self.comes_out(UVW, equations, cases(UVW, equations))

    def test_too_great(self):
        for equations in (polynomials_of("u^9"), (raised(p("u"), 17),)):
            with self.assertRaises(TooGreat):
                cover_paper(UV, equations)

    def test_refused_in_order(self):
        bad = ((BadRanking, NO_RANKINGS), (BadPolynomial, NO_EQUATIONS + WITH_NONE))
        refused_in_order(self, cover_paper, (UV, SPLIT), bad)
        refused_in_order(self, check_cover, (UV, SPLIT, GOOD), (*bad, (BadPaper, things())))
        with self.assertRaises(BadPolynomial) as caught:
            check_cover(UV, polynomials_of("u", "w"), None)
        self.assertEqual(caught.exception.number, 1)


class MadeOtherwise(unittest.TestCase):
    """Papers that come out, whoever made them."""

    def test_a_knot_comes_out_of_all(self):
        for ranking, equations, _ in some_products(663, 20):
            self.assertEqual(check_cover(ranking, equations, ("knot", (), (), ())), [("knot", ())])

    def test_knots_of_any_chain(self):
        # The CHAIN may be open, and whatever is given may be what it is by it.
        equations = polynomials_of("u.y - u", "u.x - u^2", "v")
        paper = ("knot", (("given", 1), ("given", 0)), chain("u.y = u", "u.x = u^2"), (1, 0))
        self.assertEqual(check_cover(UV, equations, paper), [("knot", chain("u.y = u", "u.x = u^2"))])
        paper = ("knot", (("given", 1), ("derived", 0, "y")), chain("u.x = u^2"), (0,))
        self.assertEqual(check_cover(UV, equations, paper), [("knot", chain("u.x = u^2"))])

    def test_closed_by_rows_of_any_sort(self):
        equations = polynomials_of("2*u.x - 2*v", "u.y")
        rows = (
            ("given", 1),
            ("given", 0),
            ("sum", ((p("1/2"), 1),)),
            ("derived", 0, "x"),
            ("derived", 2, "y"),
            ("sum", ((WHOLE, 3), (MINUS, 4))),
            ("given", 0),
        )
        self.assertEqual(paper_rows(UV, equations, rows)[5], p("v.y"))
        paper = ("closed", rows, chain("v.y = 0", "u.y = 0", "u.x = v"), (5, 0, 2))
        self.assertEqual(check_cover(UV, equations, paper), [("closed", paper[2])])

    def test_a_closed_chain_may_have_more_in_front_of_it_than_wants(self):
        # By a SPLIT that wasn't wanted, what is told has more LEAVES.
        equations = polynomials_of("u*v", "v")
        left = ("closed", (("given", 2),), chain("v = 0"), (0,))
        right = ("closed", (("given", 2), ("given", 1)), chain("v = 0", "u = 0"), (1, 0))
        paper = ("split", (("given", 0),), 0, (left, right))
        self.assertEqual(check_cover(UV, equations, paper), [("closed", chain("v = 0")), ("closed", chain("v = 0", "u = 0"))])

    def test_contradictions_by_any_number(self):
        equations = polynomials_of("u.x - 1", "u.y - u")
        rows = (
            ("given", 0),
            ("given", 1),
            ("derived", 0, "y"),
            ("derived", 1, "x"),
            ("sum", ((WHOLE, 3), (MINUS, 2), (WHOLE, 0))),
        )
        self.assertEqual(paper_rows(UV, equations, rows)[4], p("-1"))
        self.assertEqual(check_cover(UV, equations, ("contradiction", rows, 4)), [("contradiction", ())])
        paper = ("split", (("sum", ()), ("given", 0)), 1, (("contradiction", (("given", 1),), 0),))
        with self.assertRaises(BadPaper):
            check_cover(UV, polynomials_of("u"), paper)

    def test_splits_of_rows_that_follow(self):
        # Derived, u*v - u.x splits no more; times a DERIVATIVE each row has FACTORS.
        equations = polynomials_of("u.x - v")
        rows = (("given", 0), ("sum", ((p("u.y^2"), 0),)))
        left = ("knot", (("given", 1),), chain("u.y = 0"), (0,))
        right = ("closed", (("given", 0),), chain("u.x = v"), (0,))
        told = check_cover(UV, equations, ("split", rows, 1, (left, right)))
        self.assertEqual(told, [("knot", chain("u.y = 0")), ("closed", chain("u.x = v"))])

    def test_splits_into_one(self):
        paper = ("split", (("given", 0),), 0, (("closed", (("given", 1),), chain("u = 0"), (0,)),))
        self.assertEqual(check_cover(UV, polynomials_of("-3*u^4"), paper), [("closed", chain("u = 0"))])

    def test_of_many_levels(self):
        tree = ("knot", (), (), ())
        equations = polynomials_of("u")
        for _ in range(400):
            tree = ("split", (("given", 0),), 0, (tree,))
        self.assertEqual(check_cover(UV, equations, tree), [("knot", ())])


class Refused(unittest.TestCase):
    def refused(self, equations, paper, way, word, ranking=UV):
        with self.assertRaises(BadPaper) as caught:
            check_cover(ranking, equations, paper)
        self.assertEqual(caught.exception.place, (way, word))

    def at_each_way(self, make, word):
        """Looks that a part that isn't so is told by its WAY, at the top and within."""
        ways = ((), (0,), (1,))
        for way in ways:
            self.refused(SPLIT, tree_with(GOOD, way, make(tree_at(GOOD, way))), way, word)
        for way in ((1,), (1, 1), (0, 1)):
            self.refused(SPLIT, tree_with(DEEP, way, make(tree_at(DEEP, way))), way, word)

    def test_form(self):
        for thing in (
            *things(),
            ("split",),
            ("split", (), 0),
            ("split", (), 0, (), ()),
            ("closed", (), ()),
            ("closed", (), (), (), ()),
            ("knot", (), ()),
            ("contradiction", ()),
            ("contradiction", (), 0, ()),
            ("opened", (), (), ()),
            ["knot", (), (), ()],
            (Odd(), (), (), ()),
            (Yes(), (), (), ()),
            (("knot",), (), (), ()),
            (b"knot", (), (), ()),
        ):
            self.at_each_way(lambda part: thing, "form")

    def test_rows(self):
        for thing in (
            *but(()),
            [("given", 0)],
            (("given", 0), None),
            (("given", 9),),
            (("given", -1),),
            (("given", True),),
            (("derived", 0, "x"),),
            (("given", 0), ("derived", 1, "x")),
            (("given", 0), ("derived", 0, "z")),
            (("given", 0), ("sum", ((p("w"), 0),))),
            (Odd(),),
        ):
            self.at_each_way(lambda part: (part[0], thing, *part[2:]), "rows")
        # What is ASSUMED is given from its part on alone.
        self.refused(SPLIT, ("split", (("given", 1),), 0, GOOD[3]), (), "rows")
        self.refused(SPLIT, tree_with(GOOD, (1,), ("knot", (("given", 2),), (), ())), (1,), "rows")
        self.refused(polynomials_of("u"), ("knot", (("given", 0), ("derived", 0, "y")), (), ()), (), "rows", ONE_AXIS)

    def test_chains(self):
        for word in ("closed", "knot"):
            for thing in (*NO_CHAINS_OF_UV, Odd(), Yes()):
                for way in ((0,), (1,)):
                    self.refused(SPLIT, tree_with(GOOD, way, (word, (), thing, ())), way, "chain")
                self.refused(SPLIT, (word, (), thing, ()), (), "chain")
        equations = polynomials_of("u.y - u", "u.x - u^2")
        rows = (("given", 0), ("given", 1))
        told = chain("u.y = u", "u.x = u^2")
        self.refused(equations, ("closed", rows, told, (0, 1)), (), "chain")
        self.assertEqual(check_cover(UV, equations, ("knot", rows, told, (0, 1))), [("knot", told)])

    def test_row_of_a_split(self):
        for thing in (*NO_NUMBERS, 1, 2):
            self.refused(SPLIT, (*GOOD[:2], thing, GOOD[3]), (), "row")
            self.refused(SPLIT, (*GOOD[:2], thing, None), (), "row")
        for text in ("u + v", "1", "0", "u*v + 1"):
            self.refused(polynomials_of(text), GOOD, (), "row")

    def test_row_of_a_contradiction(self):
        equations = polynomials_of("u", "0", "1", "v + 1", "-2/3")
        rows = tuple(("given", number) for number in range(5))
        for thing in (*NO_NUMBERS, 0, 1, 3, 5):
            self.refused(equations, ("contradiction", rows, thing), (), "row")
        for number in (2, 4):
            self.assertEqual(check_cover(UV, equations, ("contradiction", rows, number)), [("contradiction", ())])

    def test_rows_of_chains(self):
        equations = polynomials_of("u.x - v", "v.y", "2*u.x - 2*v", "u.x")
        rows = tuple(("given", number) for number in range(4))
        told = chain("v.y = 0", "u.x = v")
        for word in ("closed", "knot"):
            for places in (
                *but(()),
                (),
                [1, 0],
                (1,),
                (0, 1),
                (1, 2),
                (1, 3),
                (1, 4),
                (1, -1),
                (1, None),
                (True, 0),
                (1, 0, 0),
                (Odd(), 0),
                (Yes(), 0),
                {1: 0},
            ):
                self.refused(equations, (word, rows, told, places), (), "row")
        self.assertEqual(check_cover(UV, equations[:3], ("closed", rows[:3], told, (1, 0))), [("closed", told)])
        self.refused(SPLIT, ("closed", (("given", 0),), (), (0,)), (), "row")

    def test_trees(self):
        for thing in (*things(), list(GOOD[3]), GOOD[3][:1], (*GOOD[3], GOOD[3][0])):
            if not isinstance(thing, tuple) or len(thing) != 2:
                self.refused(SPLIT, (*GOOD[:3], thing), (), "trees")
                self.refused(SPLIT, tree_with(DEEP, (1,), (*GOOD[:3], thing)), (1,), "trees")

    def test_equations(self):
        # All that stand there must go out, what is ASSUMED, too.
        self.refused(SPLIT, ("closed", (), (), ()), (), "equation")
        left, right = GOOD[3]
        more = tuple((word, (("given", 2),), pairs, places) for word, _, pairs, places in (left, right))
        self.refused(polynomials_of("u*v", "u.x"), (*GOOD[:3], more), (0,), "equation")
        self.refused(polynomials_of("u*v", "v.x"), (*GOOD[:3], more), (1,), "equation")
        equations = polynomials_of("u.x - v", "v.y", "u")
        rows = tuple(("given", number) for number in range(3))
        self.refused(equations, ("closed", rows, chain("v.y = 0", "u.x = v"), (1, 0)), (), "equation")
        assumed = ("split", (("given", 0),), 0, (("closed", (), (), ()),))
        self.refused(polynomials_of("u"), assumed, (0,), "equation")
        # Of knots no EQUATION is asked.
        self.assertEqual(check_cover(UV, SPLIT, ("knot", (), (), ())), [("knot", ())])

    def test_each_ahead_of_those_within_it(self):
        left, right = GOOD[3]
        for paper, way, word in (
            (("split", None, 9, None), (), "rows"),
            (("split", (("given", 0),), 9, None), (), "row"),
            (("split", (("given", 0),), 0, (None,)), (), "trees"),
            (("split", (("given", 0),), 0, (None, None)), (0,), "form"),
            (("split", (("given", 0),), 0, (left, None)), (1,), "form"),
            (("split", (("given", 0),), 0, (("closed", None, None, None), None)), (0,), "rows"),
            (("split", (("given", 0),), 0, (("closed", (), None, None), None)), (0,), "chain"),
            (("split", (("given", 0),), 0, (("closed", (), chain("u = 0"), None), None)), (0,), "row"),
            (("split", (("given", 0),), 0, (("closed", (), (), ()), None)), (0,), "equation"),
            (("split", (("given", 0),), 0, (("contradiction", (), 0), None)), (0,), "row"),
            # Within the left one goes ahead of the right one.
            (("split", (("given", 0),), 0, (("split", (("given", 1),), 0, (None,)), None)), (0, 0), "form"),
            (("split", (("given", 0),), 0, (KNOTS, ("split", (("given", 0),), 0, (left, None)))), (1, 0), "row"),
            (("split", (("given", 0),), 0, (KNOTS, ("split", (("given", 0),), 0, (KNOT, None)))), (1, 1), "form"),
            (("closed", None, None, None), (), "rows"),
            (("knot", (), None, None), (), "chain"),
        ):
            self.refused(SPLIT, paper, way, word)
        self.assertEqual(len(check_cover(UV, SPLIT, ("split", (("given", 0),), 0, (left, right)))), 2)

    def test_two_wrong_parts_of_a_paper_that_is_told(self):
        equations = polynomials_of("u*v", "v*w", "u*w")
        paper = cover_paper(UVW, equations)
        ways = ((), (0,), (0, 0), (0, 1), (1,), (1, 0), (1, 1))
        for at, way in enumerate(ways):
            for other in ways[at + 1 :]:
                wrong = tree_with(paper, other, None)
                # The one ahead is wrong by its rows: what is within it is told behind.
                part = tree_at(wrong, way)
                wrong = tree_with(wrong, way, (part[0], None, *part[2:]))
                self.refused(equations, wrong, way, "rows", UVW)


class TooGreatOnes(unittest.TestCase):
    GREAT = chain("u.y = u^9", "u.x = u^8*v")

    def test_conditions(self):
        equations = polynomials_of("u.y - u^9", "u.x - u^8*v")
        rows = (("given", 0), ("given", 1))
        with self.assertRaises(TooGreat):
            check_cover(UV, equations, ("closed", rows, self.GREAT, (0, 1)))
        self.assertEqual(check_cover(UV, equations, ("knot", rows, self.GREAT, (0, 1))), [("knot", self.GREAT)])

    def test_equations(self):
        equations = (p("u - v^9"), raised(p("u"), 2))
        told = ((d("u"), p("v^9")),)
        with self.assertRaises(TooGreat):
            check_cover(NAMES, equations, ("closed", (("given", 0),), told, (0,)))
        # One that doesn't go out is told ahead of what is too great, wherever it stands.
        for more in ((*equations, p("v")), (p("v"), *equations)):
            with self.assertRaises(BadPaper) as caught:
                check_cover(NAMES, more, ("closed", (("given", more.index(p("u - v^9"))),), told, (0,)))
            self.assertEqual(caught.exception.place, ((), "equation"))

    def test_what_is_not_so_is_told_first(self):
        # The left one is too great by its CONDITIONS, and all EQUATIONS go out by it.
        equations = polynomials_of("u.y - u^9", "u.x - u^8*v")
        split = ("split", (("given", 0), ("sum", ((p("w*v"), 0),))), 1)
        knot = ("knot", (), (), ())
        rows = (("given", 0), ("given", 1), ("given", 2))
        great = ("closed", rows, chain("w = 0", "u.y = u^9", "u.x = u^8*v"), (2, 0, 1))
        self.assertEqual(len(check_cover(UVW, equations, (*split, (knot, knot, knot)))), 3)
        with self.assertRaises(TooGreat):
            check_cover(UVW, equations, (*split, (great, knot, knot)))
        for wrong, word in (
            (None, "form"),
            (("closed", None, (), ()), "rows"),
            (("closed", (), None, ()), "chain"),
            (("closed", (), (), (0,)), "row"),
            (("closed", (), (), ()), "equation"),
            (("split", (("given", 0), ("sum", ((p("u"), 0),))), 1, ()), "trees"),
        ):
            for at in (0, 1, 2):
                trees = [great, knot, knot]
                trees[at] = wrong
                with self.assertRaises(BadPaper) as caught:
                    check_cover(UVW, equations, (*split, tuple(trees)))
                self.assertEqual(caught.exception.place, ((at,), word))

    def test_nothing_is_closed_anew(self):
        # A paper is looked at, whatever CLOSING would come to.
        equations = polynomials_of("u^9*v")
        paper = ("split", (("given", 0),), 0, (("closed", (("given", 1),), chain("v = 0"), (0,)), ("closed", (("given", 1),), chain("u = 0"), (0,))))
        with self.assertRaises(TooGreat):
            cases(UV, equations)
        self.assertEqual(len(check_cover(UV, equations, paper)), 2)
        self.assertEqual(derived(equations[0], "x"), p("9*u^8*u.x*v + u^9*v.x"))


if __name__ == "__main__":
    unittest.main()
