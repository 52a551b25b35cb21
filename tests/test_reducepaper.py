"""rankedchains.reducepaper: promise [22]."""

import random
import unittest

from rankedchains.chains import equation_of
from rankedchains.errors import BadChain, BadPaper, BadPolynomial, BadRanking, TooGreat
from rankedchains.normal import is_reduced, normal
from rankedchains.polynomials import derived, is_polynomial, less, of_derivative, plus, raised, times
from rankedchains.reducepaper import check_reduce, reduce_paper
from systems import ALL, HEAT, NAMES, ONE_AXIS, OPEN, SQUARES, SWING, UV, high, some_polynomial, sum_of_terms
from things import NO_CHAINS, NO_POLYNOMIALS, NO_RANKINGS, Odd, Yes, chain, d, p, refused_in_order, things


def sum_by_hand(ranking, pairs, paper):
    reduced, rows = paper
    total = reduced
    for number, by_x, by_y, cofactor in rows:
        one = derived(derived(equation_of(ranking, pairs[number]), "x", many=by_x), "y", many=by_y)
        total = plus(total, times(cofactor, one))
    return total


class Made(unittest.TestCase):
    def looked_at(self, ranking, pairs, one):
        told = reduce_paper(ranking, pairs, one)
        due = normal(ranking, pairs, one)
        self.assertEqual(told[0], due)
        self.assertEqual(sum_by_hand(ranking, pairs, told), one)
        self.assertEqual(check_reduce(ranking, pairs, one, told), due)
        self.assertIs(type(told[1]), tuple)
        places = [row[:3] for row in told[1]]
        self.assertEqual(places, sorted(set(places)))
        for number, by_x, by_y, cofactor in told[1]:
            self.assertIn(number, range(len(pairs)))
            self.assertIn(by_x, range(25))
            self.assertIn(by_y, range(25) if "y" in ranking[2] else (0,))
            self.assertTrue(is_polynomial(cofactor) and cofactor)
        return told

    def test_by_hand(self):
        self.assertEqual(reduce_paper(*HEAT, p("u.xx")), (p("u.y"), ((0, 0, 0, p("1")),)))
        self.assertEqual(reduce_paper(*HEAT, p("v*u.xxy")), (p("v*u.yy"), ((0, 0, 1, p("v")),)))
        self.assertEqual(reduce_paper(*HEAT, p("u.y + 1")), (p("u.y + 1"), ()))
        self.assertEqual(reduce_paper(*HEAT, ()), ((), ()))
        self.assertEqual(reduce_paper(*HEAT, p("u.xx^2")), (p("u.y^2"), ((0, 0, 0, p("u.xx + u.y")),)))
        ranking, pairs = HEAT
        told = reduce_paper(ranking=ranking, chain=pairs, polynomial=p("u.xx"))
        self.assertEqual(check_reduce(ranking=ranking, chain=pairs, polynomial=p("u.xx"), paper=told), p("u.y"))

    def test_it_comes_out(self):
        chance = random.Random(31)
        for ranking, pairs in ALL:
            for _ in range(15):
                self.looked_at(ranking, pairs, some_polynomial(chance, ranking))

    def test_powers(self):
        for text in ("u.xxx^3*u.xx^2", "u.xx^9", "u.xxx^2*u.xy - u.xxy^2"):
            self.looked_at(*HEAT, p(text))
        self.looked_at(*SQUARES, p("u.xxx^2*v.xxxx - u.xx^3"))
        self.looked_at(*OPEN, p("u.xxy^2*u.xyy"))
        self.looked_at(ONE_AXIS, chain("u.x = 0"), p("u.xx^9*v^9*u.x^3"))

    def test_what_goes_out(self):
        chance = random.Random(32)
        for ranking, pairs in (HEAT, SQUARES, SWING):
            one = ()
            for pair in pairs:
                some = some_polynomial(chance, ranking, 1)
                one = plus(one, times(some, derived(equation_of(ranking, pair), "x", many=2)))
            self.assertEqual(self.looked_at(ranking, pairs, one)[0], ())

    def test_great_orders(self):
        self.looked_at(ONE_AXIS, chain("u.x = u"), high("u", 24))
        self.looked_at(UV, chain("u.y = 0"), of_derivative(("u", 0, 24)))
        self.looked_at(NAMES, chain("u = v"), of_derivative(("u", 12, 12)))

    def test_too_great(self):
        for ranking, pairs, one in (
            (ONE_AXIS, chain("u.x = u"), high("u", 25)),
            (UV, (), raised(p("u"), 17)),
            (NAMES, (), sum_of_terms("v", 121)),
            (NAMES, ((d("v"), sum_of_terms("w", 121)),), less(p("v"), sum_of_terms("w", 121))),
            (NAMES, chain("v.xx = 0", "u = v.x"), high("u", 24)),
        ):
            with self.assertRaises(TooGreat):
                reduce_paper(ranking, pairs, one)


class Looked(unittest.TestCase):
    def refused(self, ranking, pairs, one, paper, place):
        with self.assertRaises(BadPaper) as caught:
            check_reduce(ranking, pairs, one, paper)
        self.assertEqual(caught.exception.place, place)

    def test_papers_of_other_ways_come_out(self):
        # u.xy goes by either pair, and by this CHAIN to unlike ends.
        self.assertEqual(check_reduce(*OPEN, p("u.xy"), (p("u^2"), ((0, 1, 0, p("1")), (1, 0, 0, p("1"))))), p("u^2"))
        other = (p("2*u^2"), ((0, 0, 0, p("2*u")), (1, 0, 1, p("1"))))
        self.assertEqual(check_reduce(*OPEN, p("u.xy"), other), p("2*u^2"))
        self.assertEqual(normal(*OPEN, p("u.xy")), p("u^2"))
        # What goes against each other may stand in a paper, too.
        one = p("u.xx - u.y")
        more = (
            (0, 0, 0, plus(p("1"), derived(one, "x"))),
            (0, 1, 0, less((), one)),
        )
        self.assertEqual(check_reduce(*HEAT, one, ((), more)), ())
        self.assertEqual(check_reduce(*HEAT, (), ((), ((0, 0, 0, derived(one, "y")), (0, 0, 1, p("-u.xx + u.y"))))), ())

    def test_a_paper_wants_no_normal_form(self):
        one = sum_of_terms("v", 121)
        self.assertEqual(check_reduce(NAMES, (), one, (one, ())), one)
        pairs = ((d("v"), sum_of_terms("w", 121)),)
        paper = (sum_of_terms("w", 121), ((0, 0, 0, p("1")),))
        self.assertEqual(check_reduce(NAMES, pairs, p("v"), paper), sum_of_terms("w", 121))
        great = high("u", 25)
        self.assertEqual(check_reduce(ONE_AXIS, chain("u.x = 0"), great, ((), ((0, 24, 0, p("1")),))), ())
        both = chain("u.xy = 1")
        far = of_derivative(("u", 25, 25))
        self.assertEqual(check_reduce(UV, both, far, ((), ((0, 24, 24, p("1")),))), ())

    def test_no_pair(self):
        good = reduce_paper(*HEAT, p("u.xx"))
        for paper in (
            *things(),
            list(good),
            good + ((),),
            good[:1],
            (good[0], list(good[1])),
            (p("w"), good[1]),
            (((), (1, 1)), good[1]),
            ([], ()),
            (None, ()),
            ((), None),
            ((), {}),
            ((), "rows"),
            (Odd(), ()),
            ((), Odd()),
            (Yes(), Yes()),
        ):
            self.refused(*HEAT, p("u.xx"), paper, None)
        self.refused(*SWING, p("u.x"), (p("u.y"), ()), None)

    def test_rows_by_themselves(self):
        good = (0, 0, 0, p("1"))
        for row in (
            *things(),
            list(good),
            good[:3],
            good + (0,),
            (1, 0, 0, p("1")),
            (-1, 0, 0, p("1")),
            (True, 0, 0, p("1")),
            (False, 0, 0, p("1")),
            (0.0, 0, 0, p("1")),
            (None, 0, 0, p("1")),
            (0, -1, 0, p("1")),
            (0, 25, 0, p("1")),
            (0, False, 0, p("1")),
            (0, "0", 0, p("1")),
            (0, 0, -1, p("1")),
            (0, 0, 25, p("1")),
            (0, 0, False, p("1")),
            (0, 0, 0, ()),
            (0, 0, 0, p("w")),
            (0, 0, 0, 1),
            (0, 0, 0, (1, 1)),
            (0, 0, 0, ((), ())),
            (0, 0, 0, list(p("1"))),
            (Odd(), 0, 0, p("1")),
            (0, Odd(), Odd(), p("1")),
            (0, 0, 0, Odd()),
            (Yes(), Yes(), Yes(), Yes()),
        ):
            self.refused(*HEAT, p("u.xx"), (p("u.y"), (row,)), ("row", 0))
            self.refused(*HEAT, p("u.xx"), (p("u.y"), (good, row)), ("row", 1))
            self.refused(*HEAT, p("u.xx"), (p("u.xx"), (good, row, row)), ("row", 1))
        self.refused(*SWING, p("u.x"), (p("v"), ((0, 0, 1, p("1")),)), ("row", 0))
        self.refused(*SWING, p("u.x"), (p("v"), ((2, 0, 0, p("1")),)), ("row", 0))
        self.refused(UV, (), p("u"), (p("u"), ((0, 0, 0, p("1")),)), ("row", 0))

    def test_rows_rise(self):
        one = p("1")
        for rows, number in (
            (((0, 0, 0, one), (0, 0, 0, one)), 1),
            (((0, 1, 0, one), (0, 0, 1, one)), 1),
            (((0, 0, 1, one), (0, 0, 0, one)), 1),
            (((0, 0, 0, one), (1, 0, 0, one), (0, 5, 5, one)), 2),
            (((0, 0, 0, one), (0, 0, 0, p("2"))), 1),
        ):
            self.refused(*OPEN, p("u"), (p("u"), rows), ("row", number))

    def test_the_normal_one(self):
        self.refused(*HEAT, p("u.xx"), (p("u.xx"), ()), "normal")
        self.refused(*HEAT, p("u.xx"), (p("u.xxyyy"), ((0, 0, 0, p("1")),)), "normal")
        self.assertIs(is_reduced(*HEAT, p("u.xx")), False)

    def test_the_sum(self):
        for paper in (
            (p("u.y"), ()),
            (p("u.y + 1"), ((0, 0, 0, p("1")),)),
            (p("u.y"), ((0, 0, 0, p("2")),)),
            (p("u.y"), ((0, 1, 0, p("1")),)),
            (p("u.y"), ((0, 0, 1, p("1")),)),
            (p("u.y"), ((0, 0, 0, p("1")), (0, 0, 1, p("1")))),
            ((), ()),
        ):
            self.refused(*HEAT, p("u.xx"), paper, "sum")

    def test_in_this_order(self):
        bad = (0, 0, 0, ())
        self.refused(*HEAT, p("u.xx"), (p("w"), (bad,)), None)
        self.refused(*HEAT, p("u.xx"), (p("u.xx"), (bad,)), ("row", 0))
        self.refused(*HEAT, p("u.y"), (p("u.xx"), ((0, 0, 0, p("1")),)), "normal")

    def test_all_changes_of_a_paper_are_seen(self):
        ranking, pairs = SQUARES
        one = p("u.xxx^2 + v.xxxx*u")
        reduced, rows = reduce_paper(ranking, pairs, one)
        for number, row in enumerate(rows):
            without = rows[:number] + rows[number + 1 :]
            self.refused(ranking, pairs, one, (reduced, without), "sum")
            changed = (*row[:3], plus(row[3], p("v^3*u^2")))
            self.refused(ranking, pairs, one, (reduced, rows[:number] + (changed,) + rows[number + 1 :]), "sum")
        self.refused(ranking, pairs, one, (plus(reduced, p("v")), rows), "sum")


class Refused(unittest.TestCase):
    def test_in_order(self):
        no_chains = NO_CHAINS + [chain("u = u"), list(HEAT[1])]
        bad = ((BadRanking, NO_RANKINGS), (BadChain, no_chains), (BadPolynomial, NO_POLYNOMIALS))
        refused_in_order(self, reduce_paper, (*HEAT, p("u.xx")), bad)
        good = reduce_paper(*HEAT, p("u.xx"))
        refused_in_order(self, check_reduce, (*HEAT, p("u.xx"), good), (*bad, (BadPaper, things())))


if __name__ == "__main__":
    unittest.main()
