"""rankedchains.closingpaper: promises [34] and [35]."""

import random
import unittest

from rankedchains.chains import equation_of
from rankedchains.closing import closing
from rankedchains.closingpaper import check_closing, closing_paper, paper_rows
from rankedchains.errors import BadPaper, BadPolynomial, BadRanking, TooGreat
from rankedchains.polynomials import derived, plus, raised, scaled, times
from rankedchains.words import is_whole
from systems import (
    NAMES,
    ONE_AXIS,
    UV,
    YX,
    high,
    linear_to,
    polynomials_of,
    some_led,
    some_polynomial,
    some_systems,
    sum_of_terms,
)
from things import NO_EQUATIONS, NO_POLYNOMIALS, NO_RANKINGS, WITH_NONE, Odd, Yes, chain, p, refused_in_order, things

ONE = p("1")
MINUS = p("-1")
# u.y = u and u.x = u^2 tell u.xy otherwise: -u^2 is left.
UNLIKE = polynomials_of("u.y - u", "u.x - u^2")
UNLIKE_CHAIN = chain("u.y = u", "u.x = u^2")
UNLIKE_ROWS = (
    ("given", 0),
    ("given", 1),
    ("derived", 1, "y"),
    ("derived", 0, "x"),
    ("sum", ((MINUS, 2), (ONE, 3), (p("-2*u"), 0), (ONE, 1))),
)
# What is told of these is a KNOT, and the number of the EQUATION that isn't IN the SPAN of PENDING.
FAR_KNOTS = (
    (("total", ("u", "v"), ("x",)), ("u.x - v^2", "3*u + 2*u.x*v"), 1),
    (("names", ("u", "v"), ("y", "x")), ("u.x + 3*v", "u - 1/2*u.x^2"), 1),
    (("names", ("u", "v", "w"), ("x", "y")), ("u.y + 2*v", "v.y + 3*w", "-2/3*u - 1/4*v.y*w"), 2),
    (("total", ("u", "v"), ("x",)), ("u + u.xx", "u.x + v.xx", "-4*v^2 - 3/2*v.x"), 0),
)


class Rows(unittest.TestCase):
    def refused(self, ranking, equations, rows, place):
        with self.assertRaises(BadPaper) as caught:
            paper_rows(ranking, equations, rows)
        self.assertEqual(caught.exception.place, place)

    def test_each_sort(self):
        equations = polynomials_of("u.x - v", "u.y", "3")
        rows = (
            ("given", 1),
            ("given", 0),
            ("derived", 1, "y"),
            ("derived", 0, "x"),
            ("sum", ((ONE, 2), (MINUS, 3))),
            ("given", 2),
            ("derived", 5, "x"),
            ("sum", ()),
            ("sum", (((), 4),)),
            ("sum", ((p("u"), 4), (p("2*v.x + 1"), 5), (p("u"), 4))),
            ("derived", 4, "x"),
            ("given", 1),
        )
        due = ("u.y", "u.x - v", "u.xy - v.y", "u.xy", "-v.y", "3", "0", "0", "0", "-2*u*v.y + 6*v.x + 3", "-v.xy", "u.y")
        told = paper_rows(UV, equations, rows)
        self.assertIs(type(told), list)
        self.assertEqual(told, list(polynomials_of(*due)))
        self.assertEqual(paper_rows(ranking=UV, equations=equations, rows=rows), told)

    def test_of_nothing(self):
        self.assertEqual(paper_rows(UV, (), ()), [])
        self.assertEqual(paper_rows(UV, (), (("sum", ()), ("derived", 0, "x"), ("sum", ((ONE, 0), (p("v"), 1))))), [()] * 3)
        self.refused(UV, (), (("given", 0),), 0)

    def test_no_tuple(self):
        for thing in things():
            if not isinstance(thing, tuple):
                self.refused(UV, UNLIKE, thing, None)
        self.refused(UV, UNLIKE, list(UNLIKE_ROWS), None)

    def test_the_first_that_is_none(self):
        wrong = [
            *things(),
            ["given", 0],
            ("given",),
            ("given", 0, 0),
            ("given", 2),
            ("given", -1),
            ("given", True),
            ("given", None),
            ("given", "0"),
            ("given", 0.0),
            ("given", Odd()),
            ("Given", 0),
            ("", 0),
            ("derive", 0, "x"),
            ("sums", ()),
            (Odd(), 0),
            (Yes(), 0),
            ("derived", 0),
            ("derived", 0, "x", "y"),
            ("derived", -1, "x"),
            ("derived", 5, "x"),
            ("derived", 6, "x"),
            ("derived", False, "x"),
            ("derived", 0, "z"),
            ("derived", 0, ""),
            ("derived", 0, ("x",)),
            ("derived", 0, Yes()),
            ("derived", Odd(), "x"),
            ("sum",),
            ("sum", (), ()),
            ("sum", []),
            ("sum", None),
            ("sum", Odd()),
            ("sum", ((ONE, 0), ())),
            ("sum", ((ONE, 0), [ONE, 0])),
            ("sum", ((ONE, 0, 0),)),
            ("sum", ((ONE,),)),
            ("sum", ((ONE, 5),)),
            ("sum", ((ONE, -1),)),
            ("sum", ((ONE, True),)),
            ("sum", ((ONE, None),)),
            ("sum", ((ONE, Odd()),)),
            ("sum", (Odd(),)),
            *(("sum", ((ONE, 0), (thing, 0))) for thing in NO_POLYNOMIALS),
        ]
        for row in wrong:
            self.refused(UV, UNLIKE, (*UNLIKE_ROWS, row), 5)
            self.refused(UV, UNLIKE, (*UNLIKE_ROWS, row, Odd(), row), 5)
            self.refused(UV, UNLIKE, (row, ("given", 0)), 0)

    def test_rows_ahead_alone(self):
        self.refused(UV, UNLIKE, (("derived", 0, "x"), ("given", 0)), 0)
        self.refused(UV, UNLIKE, (("given", 0), ("derived", 1, "x")), 1)
        self.refused(UV, UNLIKE, (("given", 0), ("sum", ((ONE, 0), (ONE, 1)))), 1)

    def test_one_axis(self):
        some = polynomials_of("u.x")
        self.assertEqual(paper_rows(ONE_AXIS, some, (("given", 0), ("derived", 0, "x")))[1], p("u.xx"))
        self.refused(ONE_AXIS, some, (("given", 0), ("derived", 0, "y")), 1)
        self.refused(ONE_AXIS, some, (("given", 0), ("sum", ((p("u.y"), 0),))), 1)

    def test_by_reckoning(self):
        chance = random.Random(341)
        for ranking in (UV, NAMES, YX):
            equations = tuple(some_polynomial(chance, ranking) for _ in range(3))
            rows, due = [("given", 2)], [equations[2]]
            for _ in range(12):
                at = chance.randrange(len(rows))
                word = chance.choice(("given", "derived", "sum"))
                if word == "given":
                    rows.append((word, at % 3))
                    due.append(equations[at % 3])
                elif word == "derived":
                    axis = chance.choice("xy")
                    rows.append((word, at, axis))
                    due.append(derived(due[at], axis))
                else:
                    by = some_polynomial(chance, ranking, 1, 2, 1)
                    rows.append((word, ((by, at), (p("1/2"), 0))))
                    due.append(plus(times(by, due[at]), scaled(due[0], (1, 2))))
            self.assertEqual(paper_rows(ranking, equations, tuple(rows)), due)

    def test_refused_in_order(self):
        bad = ((BadRanking, NO_RANKINGS), (BadPolynomial, NO_EQUATIONS + WITH_NONE), (BadPaper, [None, [], (1,), Odd()]))
        refused_in_order(self, paper_rows, (UV, UNLIKE, UNLIKE_ROWS), bad)


class Made(unittest.TestCase):
    def looked_at(self, ranking, equations):
        told = closing(ranking, equations)
        rows, places = paper = closing_paper(ranking, equations)
        self.assertIs(type(paper), tuple)
        self.assertIs(type(rows), tuple)
        self.assertIs(type(places), tuple)
        found = [paper_rows(ranking, equations, rows)[place] for place in places]
        if told[0] == "contradiction":
            self.assertEqual(found, [ONE])
        else:
            due = [equation_of(ranking, pair) for pair in told[1]]
            self.assertEqual(found, due + list(told[2] if told[0] == "knot" else ()))
        return told, paper

    def test_it_comes_out(self):
        words = []
        for ranking, equations, _ in some_systems(351, 250):
            told, paper = self.looked_at(ranking, equations)
            words.append(told[0])
            try:
                self.assertIsNone(check_closing(ranking, equations, told, paper))
            except BadPaper as wrong:
                self.assertEqual((told[0], wrong.place[0]), ("knot", "given"))
            except TooGreat:
                words.append("great")
        for word in ("closed", "knot", "contradiction"):
            self.assertGreater(words.count(word), 9)
        self.assertLess(words.count("great"), 9)

    def test_of_degree_one(self):
        chance = random.Random(352)
        for _ in range(100):
            ranking = chance.choice((UV, YX, NAMES, ONE_AXIS))
            some = tuple(linear_to(chance, ranking, 3, 3) for _ in range(chance.randint(1, 4)))
            if chance.random() < 0.3:
                some = (*some, plus(some[0], p("1/2")))
            told, paper = self.looked_at(ranking, some)
            self.assertIsNone(check_closing(ranking, some, told, paper))

    def test_by_hand(self):
        for ranking, texts, word in (
            (UV, (), "closed"),
            (UV, ("0",), "closed"),
            (UV, ("1",), "contradiction"),
            (UV, ("u.x - 1", "u.y - u"), "contradiction"),
            (UV, ("u.xy - u", "u.x - v.y", "v.xx"), "closed"),
            (UV, ("u.x - u^2", "u.y - 2*u^2"), "closed"),
            (UV, ("u.x - u^2", "u.y - u"), "knot"),
            (UV, ("u.x*u.y - 1", "2*u.x*u.y + u^2"), "knot"),
            (NAMES, ("u.xx - v", "u.yy - w*v", "v.x"), "knot"),
        ):
            equations = polynomials_of(*texts)
            told, paper = self.looked_at(ranking, equations)
            self.assertEqual(told[0], word, texts)
            self.assertIsNone(check_closing(ranking, equations, told, paper))
        told, paper = self.looked_at(UV, UNLIKE)
        self.assertIsNone(check_closing(ranking=UV, equations=UNLIKE, told=told, paper=paper))
        self.assertEqual(closing_paper(ranking=UV, equations=UNLIKE), paper)

    def test_knots_of_which_none_comes_out(self):
        for ranking, texts, number in FAR_KNOTS:
            equations = polynomials_of(*texts)
            told, paper = self.looked_at(ranking, equations)
            self.assertEqual(told[0], "knot")
            with self.assertRaises(BadPaper) as caught:
                check_closing(ranking, equations, told, paper)
            self.assertEqual(caught.exception.place, ("given", number))

    def test_too_great(self):
        for ranking, equations in (
            (UV, (raised(p("u"), 17),)),
            (UV, (raised(p("u"), 9),)),
            (ONE_AXIS, (high("u", 13),)),
            (NAMES, (plus(p("u"), sum_of_terms("v", 60)),)),
        ):
            with self.assertRaises(TooGreat):
                closing_paper(ranking, equations)

    def test_refused_in_order(self):
        bad = ((BadRanking, NO_RANKINGS), (BadPolynomial, NO_EQUATIONS + WITH_NONE))
        refused_in_order(self, closing_paper, (UV, UNLIKE), bad)


class Looked(unittest.TestCase):
    def refused(self, ranking, equations, told, paper, place):
        with self.assertRaises(BadPaper) as caught:
            check_closing(ranking, equations, told, paper)
        self.assertEqual(caught.exception.place, place)

    def test_papers_made_otherwise(self):
        equations = polynomials_of("2*u.x - 2", "u.y - u")
        half = p("1/2")
        rows = (
            ("given", 1),
            ("given", 0),
            ("sum", ()),
            ("sum", ((half, 1),)),
            ("derived", 3, "y"),
            ("derived", 0, "x"),
            ("sum", ((ONE, 4), (MINUS, 5), (MINUS, 3))),
            ("derived", 6, "x"),
        )
        self.assertEqual(paper_rows(UV, equations, rows)[6], ONE)
        self.assertIsNone(check_closing(UV, equations, ("contradiction",), (rows, (6,))))
        heat = polynomials_of("u.xx - u.y", "u.xxx - u.xy", "u*u.xx - u*u.y")
        for rows, places in (
            ((("given", 0),), (0,)),
            ((("given", 1), ("given", 0), ("sum", ((p("u.x"), 0),))), (1,)),
            ((("given", 0), ("sum", ((p("3"), 0),)), ("sum", ((p("1/3"), 1), (p("v"), 0), (p("-v"), 0)))), (2,)),
        ):
            self.assertIsNone(check_closing(UV, heat, ("closed", chain("u.xx = u.y")), (rows, places)))

    def test_other_knots_come_out(self):
        # The CHAIN isn't CLOSED; what is left of the CONDITION is pending, with its products or without.
        told = ("knot", UNLIKE_CHAIN, polynomials_of("u^2"))
        good = (*UNLIKE_ROWS, ("sum", ((MINUS, 4),)), ("sum", ((p("-u"), 4),)))
        self.assertEqual(paper_rows(UV, UNLIKE, good)[4:], list(polynomials_of("u^2", "-u^2", "-u^3")))
        self.assertIsNone(check_closing(UV, UNLIKE, told, (good, (0, 1, 4))))
        more = (*good, ("sum", ((p("u"), 4),)))
        told = ("knot", UNLIKE_CHAIN, polynomials_of("u^3", "u^2"))
        self.assertIsNone(check_closing(UV, UNLIKE, told, (more, (0, 1, 7, 4))))

    def test_told(self):
        good = closing_paper(UV, UNLIKE)
        left = polynomials_of("u^2")
        for told in (
            *things(),
            ["contradiction"],
            "contradiction",
            ("contradiction", ()),
            ("Contradiction",),
            ("chain", ()),
            ("knots", UNLIKE_CHAIN, left),
            ("closed",),
            ("closed", (), ()),
            ("closed", None),
            ("closed", list(chain("u.x = 0"))),
            ("closed", chain("u = u")),
            ("closed", chain("w = 0")),
            ("closed", UNLIKE_CHAIN),
            ("closed", Odd()),
            ("knot", UNLIKE_CHAIN),
            ("knot", UNLIKE_CHAIN, left, ()),
            ("knot", chain("u.x = 0", "u.y = 0"), left),
            ("knot", Odd(), left),
            ("knot", UNLIKE_CHAIN, ()),
            ("knot", UNLIKE_CHAIN, list(left)),
            *(("knot", UNLIKE_CHAIN, thing) for thing in things()),
            *(("knot", UNLIKE_CHAIN, (*left, thing)) for thing in NO_POLYNOMIALS),
            ("knot", UNLIKE_CHAIN, (Odd(),)),
            ("knot", UNLIKE_CHAIN, polynomials_of("2*u^2")),
            ("knot", UNLIKE_CHAIN, polynomials_of("u^2", "u^3")),
            ("knot", UNLIKE_CHAIN, polynomials_of("u^3 + u^2", "u^2")),
            ("knot", UNLIKE_CHAIN, polynomials_of("u^2", "u^2")),
            ("knot", UNLIKE_CHAIN, polynomials_of("u^2", "0")),
            ("knot", UNLIKE_CHAIN, polynomials_of("0")),
            ("knot", UNLIKE_CHAIN, polynomials_of("w^2")),
            ("knot", UNLIKE_CHAIN, polynomials_of("u.x^2")),
            ("knot", UNLIKE_CHAIN, polynomials_of("u^2 + u.xy^2")),
            ("knot", UNLIKE_CHAIN, polynomials_of("u")),
            ("knot", UNLIKE_CHAIN, polynomials_of("v.x - u^2")),
            ("knot", UNLIKE_CHAIN, polynomials_of("u^2", "1")),
            ("knot", UNLIKE_CHAIN, polynomials_of("1")),
            (Odd(),),
            (Odd(), Odd(), Odd()),
            (Yes(),),
        ):
            for paper in (good, None, Odd(), ((), ())):
                self.refused(UV, UNLIKE, told, paper, "told")

    def test_pending_of_many_rows(self):
        # More than twelve rows may be pending, however few EQUATIONS there are.
        powers = [raised(p("v"), power) for power in range(14, -1, -1)]
        rows = (("given", 0), *(("sum", ((power, 0),)) for power in powers))
        pending = tuple(times(power, p("u^2")) for power in powers)
        self.assertIsNone(check_closing(UV, polynomials_of("u^2"), ("knot", (), pending), (rows, tuple(range(1, 16)))))

    def test_no_pair_of_two_tuples(self):
        told = closing(UV, UNLIKE)
        rows, places = closing_paper(UV, UNLIKE)
        for paper in (
            *things(),
            [rows, places],
            (rows,),
            (rows, places, ()),
            (list(rows), places),
            (rows, list(places)),
            (None, places),
            (rows, None),
            (Odd(), places),
            (rows, Odd()),
        ):
            if not (isinstance(paper, tuple) and len(paper) == 2 and all(isinstance(part, tuple) for part in paper)):
                self.refused(UV, UNLIKE, told, paper, None)

    def test_rows(self):
        told = closing(UV, UNLIKE)
        rows, places = closing_paper(UV, UNLIKE)
        for row in (*things(), ("given", 2), ("derived", 90, "x"), ("sum", ((ONE, 90),)), Odd()):
            for at in range(len(rows) + 1):
                self.refused(UV, UNLIKE, told, (rows[:at] + (row,) + rows[at:], (Odd(),)), ("row", at))

    def test_places(self):
        told = closing(UV, UNLIKE)
        rows, places = closing_paper(UV, UNLIKE)
        self.assertEqual(len(places), 3)
        for at in range(3):
            self.refused(UV, UNLIKE, told, (rows, places[:at]), ("place", at))
            for thing in (*things(), -1, len(rows), True, None, Odd(), Yes()):
                if not (is_whole(thing) and 0 <= thing < len(rows)):
                    self.refused(UV, UNLIKE, told, (rows, places[:at] + (thing,) + places[at + 1 :]), ("place", at))
            for other in range(len(rows)):
                if other != places[at]:
                    self.refused(UV, UNLIKE, told, (rows, places[:at] + (other,)), ("place", at))
        for more in ((0,), (0, 1), (Odd(),), (Odd(), Odd())):
            self.refused(UV, UNLIKE, told, (rows, places + more), ("place", 3))
        self.refused(UV, UNLIKE, told, (rows, (Odd(),) + places), ("place", 0))

    def test_places_of_a_contradiction(self):
        equations = polynomials_of("u.x - 1", "u.y - u")
        rows, places = closing_paper(UV, equations)
        told = ("contradiction",)
        self.refused(UV, equations, told, (rows, ()), ("place", 0))
        self.refused(UV, equations, told, (rows, places * 2), ("place", 1))
        self.refused(UV, equations, told, (rows, (0,)), ("place", 0))
        doubled = (*rows, ("sum", ((p("2"), places[0]),)))
        self.refused(UV, equations, told, (doubled, (len(rows),)), ("place", 0))
        self.refused(UV, (), told, ((), ()), ("place", 0))

    def test_places_of_a_chain(self):
        equations = polynomials_of("u.x - v", "u.y + v")
        told = closing(UV, equations)
        rows, places = closing_paper(UV, equations)
        self.refused(UV, equations, told, (rows, places[::-1]), ("place", 0))
        self.refused(UV, equations, told, (rows, places[:2]), ("place", 2))
        self.refused(UV, equations, ("closed", ()), (rows, places), ("place", 0))
        self.refused(UV, (), ("closed", chain("u = 0")), ((), ()), ("place", 0))

    def test_given(self):
        heat = chain("u.xx = u.y")
        rows = (("given", 0),)
        for texts, place in (
            (("u.xx - u.y", "u.x"), 1),
            (("u.xx - u.y", "u.xxxx - u.yy", "u.xxxx - u.y", "v"), 2),
            (("u.xx - u.y", "1"), 1),
        ):
            self.refused(UV, polynomials_of(*texts), ("closed", heat), (rows, (0,)), ("given", place))
        self.refused(UV, polynomials_of("v"), ("closed", ()), ((), ()), ("given", 0))
        told = ("knot", (), polynomials_of("u^2"))
        self.refused(UV, polynomials_of("u^2", "3*u^2", "u^3"), told, (rows, (0,)), ("given", 2))

    def test_conditions(self):
        good = (*UNLIKE_ROWS, ("sum", ((p("u"), 4),)))
        told = ("knot", UNLIKE_CHAIN, polynomials_of("u^3"))
        self.refused(UV, UNLIKE, told, (good, (0, 1, 5)), ("condition", 0, 1))
        equations = polynomials_of("v.y", "u.y - u", "v.x", "u.x - u^2", "u*v")
        pairs = chain("v.y = 0", "u.y = u", "v.x = 0", "u.x = u^2")
        rows = tuple(("given", number) for number in range(5))
        told = ("knot", pairs, polynomials_of("u*v"))
        self.refused(UV, equations, told, (rows, (0, 1, 2, 3, 4)), ("condition", 1, 3))
        self.refused(UV, (*equations, p("u^2")), told, (rows, (0, 1, 2, 3, 4)), ("given", 5))

    def test_in_this_order(self):
        told = closing(UV, UNLIKE)
        rows, places = closing_paper(UV, UNLIKE)
        wrong = (*UNLIKE, p("v"))
        self.refused(UV, wrong, ("closed", UNLIKE_CHAIN), None, "told")
        self.refused(UV, wrong, told, (rows, None), None)
        self.refused(UV, wrong, told, (("given", 0),), None)
        self.refused(UV, wrong, told, ((*rows, None), ()), ("row", len(rows)))
        self.refused(UV, wrong, told, (rows, places[:2]), ("place", 2))
        self.refused(UV, wrong, told, (rows, places), ("given", 2))

    def test_too_great(self):
        # By this CHAIN a CONDITION is TooGreat; by the other one an EQUATION is.
        pairs = chain("u.y = u^9", "u.x = u^9*u")
        for paper in (None, ((), ())):
            with self.assertRaises(TooGreat):
                check_closing(UV, (), ("closed", pairs), paper)
        given = (p("v - w^9"), p("v^2 - w^9*v"))
        with self.assertRaises(TooGreat):
            check_closing(NAMES, (*given, p("v^2")), ("closed", chain("v = w^9")), ((("given", 0),), (0,)))
        self.refused(NAMES, (given[0], p("w"), p("v^2")), ("closed", chain("v = w^9")), ((("given", 0),), (0,)), ("given", 1))
        rows = (("given", 0), ("given", 1), ("given", 2))
        equations = (*(equation_of(UV, pair) for pair in pairs), p("v^2"))
        with self.assertRaises(TooGreat):
            check_closing(UV, equations, ("knot", pairs, polynomials_of("v^2")), (rows, (0, 1, 2)))

    def test_what_closing_tells_if_it_is_not_too_great(self):
        # CLOSING is TooGreat of these, a looker isn't.
        one = raised(p("u"), 9)
        self.assertIsNone(check_closing(UV, (one,), ("knot", (), (one,)), ((("given", 0),), (0,))))
        pairs = ((("u", 13, 0), ()),)
        self.assertIsNone(check_closing(ONE_AXIS, (high("u", 13),), ("closed", pairs), ((("given", 0),), (0,))))

    def test_changes_are_seen(self):
        chance = random.Random(353)
        seen = 0
        for _ in range(40):
            equations = tuple(some_led(chance, UV, 2, 2, 1) for _ in range(2))
            told = closing(UV, equations)
            rows, places = closing_paper(UV, equations)
            for number, row in enumerate(rows):
                changed = ("sum", row[1] + ((p("u"), 0),)) if row[0] == "sum" else ("sum", ())
                if number in places:
                    seen += 1
                    with self.assertRaises(BadPaper):
                        check_closing(UV, equations, told, (rows[:number] + (changed,) + rows[number + 1 :], places))
        self.assertGreater(seen, 40)

    def test_refused_in_order(self):
        good = (UV, UNLIKE, closing(UV, UNLIKE), closing_paper(UV, UNLIKE))
        bad = (
            (BadRanking, NO_RANKINGS),
            (BadPolynomial, NO_EQUATIONS + WITH_NONE),
            (BadPaper, things()),
            (BadPaper, things()),
        )
        refused_in_order(self, check_closing, good, bad)

    def test_what_is_handed_in_is_as_it_was(self):
        equations = polynomials_of("u.y - u", "u.x - u^2")
        told = closing(UV, equations)
        paper = closing_paper(UV, equations)
        kept = (told, paper)
        check_closing(UV, equations, told, paper)
        paper_rows(UV, equations, paper[0])
        self.assertEqual(equations, UNLIKE)
        self.assertEqual((told, paper), kept)


if __name__ == "__main__":
    unittest.main()
