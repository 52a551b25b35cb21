"""rankedchains.normal: promises [20] and [21]."""

import random
import unittest

from rankedchains.chains import equation_of, need_chain
from rankedchains.errors import BadChain, BadPolynomial, BadRanking, OutOfPlace, TooGreat
from rankedchains.normal import are_like, goes_out, is_reduced, met, normal, put_for, step_of
from rankedchains.polynomials import (
    constant,
    derivatives_in,
    derived,
    less,
    need_polynomial,
    of_derivative,
    plus,
    put_into,
    raised,
    scaled,
    times,
)
from rankedchains.rankings import all_to, rank_compared
from things import NO_CHAINS, NO_DERIVATIVES, NO_POLYNOMIALS, NO_RANKINGS, chain, d, p, refused_in_order
from systems import (
    ALL,
    BY_NAMES,
    EMPTY,
    HEAT,
    NAMES,
    ONE_AXIS,
    OPEN,
    SQUARES,
    SWING,
    TANGLED,
    UV,
    WAVE,
    high,
    normal_by_hand,
    put_by_hand,
    some_polynomial,
    sum_of_terms,
)


class Put(unittest.TestCase):
    def test_the_chains_here_are_some(self):
        for ranking, pairs in ALL:
            need_chain(ranking, pairs)

    def test_by_hand(self):
        self.assertEqual(put_for(*HEAT, d("u.xx")), (0, 0, 0, p("u.y")))
        self.assertEqual(put_for(*HEAT, d("u.xxxyy")), (0, 1, 2, p("u.xyyy")))
        self.assertIsNone(put_for(*HEAT, d("u.xyyyyyy")))
        self.assertIsNone(put_for(*HEAT, d("v.xx")))
        self.assertEqual(put_for(*SQUARES, d("u.xxx")), (0, 1, 0, p("2*u*u.x + u.xx*v + u.x*v.x")))
        ranking, pairs = SWING
        self.assertEqual(put_for(ranking=ranking, chain=pairs, derivative=d("v.xx")), (0, 1, 0, p("-u.x")))

    def test_the_first_pair_puts(self):
        self.assertEqual(put_for(*OPEN, d("u.xy")), (0, 1, 0, p("u.x")))
        self.assertEqual(put_for(*OPEN, d("u.xx")), (1, 1, 0, p("2*u*u.x")))
        self.assertEqual(put_for(*TANGLED, d("u.xyy")), (1, 1, 0, p("u.x*v + u*v.x")))
        self.assertEqual(put_for(*TANGLED, d("u.xxy")), (2, 1, 0, p("2*u.y*u.xy")))

    def test_against_the_document(self):
        for ranking, pairs in ALL:
            for derivative in all_to(ranking, 4):
                told = put_for(ranking, pairs, derivative)
                self.assertEqual(told, put_by_hand(ranking, pairs, derivative))
                if told is not None:
                    for lower in derivatives_in(told[3]):
                        self.assertEqual(rank_compared(ranking, lower, derivative), -1)

    def test_orders(self):
        ranking, pairs = SWING
        self.assertEqual(put_for(ranking, pairs, ("u", 24, 0)), (1, 23, 0, high("v", 23)))
        self.assertEqual(put_for(*HEAT, ("u", 2, 22)), (0, 0, 22, of_derivative(("u", 0, 23))))
        for derivative in (("u", 25, 0), ("v", 25, 0), ("u", 90, 0)):
            with self.assertRaises(TooGreat):
                put_for(ranking, pairs, derivative)
        with self.assertRaises(TooGreat):
            put_for(*HEAT, ("u", 2, 23))
        self.assertIsNone(put_for(*HEAT, ("u", 1, 24)))
        self.assertIsNone(put_for(*HEAT, ("v", 25, 0)))


class Steps(unittest.TestCase):
    def test_by_hand(self):
        self.assertEqual(step_of(*HEAT, p("u.xx^2 + u.xxx*u + 1")), (d("u.xxx"), p("u.xx^2 + u.xy*u + 1")))
        self.assertEqual(step_of(*HEAT, p("u.xx^2 + u.xy*u + 1")), (d("u.xx"), p("u.y^2 + u.xy*u + 1")))
        self.assertIsNone(step_of(*HEAT, p("u.y^2 + u.xy*u + 1")))
        self.assertIsNone(step_of(*HEAT, ()))
        ranking, pairs = SWING
        self.assertEqual(step_of(ranking=ranking, chain=pairs, polynomial=p("u.x*v.x")), (d("u.x"), p("v*v.x")))

    def test_steps_end_at_the_normal_form(self):
        chance = random.Random(21)
        for ranking, pairs in ALL:
            for _ in range(12):
                one = some_polynomial(chance, ranking)
                due = normal(ranking, pairs, one)
                last = None
                while (step := step_of(ranking, pairs, one)) is not None:
                    derivative, after = step
                    self.assertEqual(after, put_into(one, derivative, put_for(ranking, pairs, derivative)[3]))
                    self.assertNotIn(derivative, derivatives_in(after))
                    if last is not None:
                        self.assertEqual(rank_compared(ranking, derivative, last), -1)
                    one, last = after, derivative
                self.assertEqual(one, due)

    def test_orders(self):
        ranking, pairs = (NAMES, chain("v.xx = 0", "u = v.x"))
        self.assertEqual(step_of(ranking, pairs, high("u", 24)), (("u", 24, 0), high("v", 25)))
        with self.assertRaises(TooGreat):
            step_of(ranking, pairs, high("v", 25))
        with self.assertRaises(TooGreat):
            step_of(ranking, pairs, high("u", 25))
        both = plus(high("u", 3), high("v", 25))
        self.assertEqual(step_of(ranking, pairs, both)[0], ("u", 3, 0))

    def test_they_want_no_normal_form(self):
        pairs = ((("u", 0, 0), sum_of_terms("v", 121)),)
        self.assertEqual(step_of(NAMES, pairs, p("u")), (d("u"), sum_of_terms("v", 121)))
        self.assertEqual(put_for(NAMES, pairs, d("u")), (0, 0, 0, sum_of_terms("v", 121)))


class Normal(unittest.TestCase):
    def test_by_hand(self):
        for (ranking, pairs), text, due in (
            (HEAT, "u.xxxx", "u.yy"),
            (HEAT, "u.xxx^2*v - u.xx", "u.xy^2*v - u.y"),
            (HEAT, "u.xxy - u.yy", "0"),
            (SWING, "u.xx + u", "0"),
            (SWING, "u.xxxx", "u"),
            (SWING, "u.x^2 + v.x^2", "v^2 + u^2"),
            (SQUARES, "u.xxx", "2*u*u.x + u^2*v + u.x*v^2 + u.x*v.x"),
            (OPEN, "u.xy", "u^2"),
            (OPEN, "u.xx", "2*u^3"),
            (WAVE, "u.yyx", "u.xxx"),
            (WAVE, "u.yyyy - v", "u.xxxx + 1/2*v.yy - v"),
            (EMPTY, "u.xx", "u.xx"),
            (HEAT, "7/2", "7/2"),
            (HEAT, "0", "0"),
        ):
            self.assertEqual(normal(ranking, pairs, p(text)), p(due), text)
        ranking, pairs = HEAT
        self.assertEqual(normal(ranking=ranking, chain=pairs, polynomial=p("u.xx")), p("u.y"))

    def test_by_names(self):
        self.assertEqual(normal(*BY_NAMES, p("v.xy")), p("2*w*w.x"))
        self.assertEqual(normal(*BY_NAMES, p("u.xx")), p("v.xx*w + v.x*w.x - 2*u*v.x*w + 2*u^3"))
        self.assertEqual(normal(*BY_NAMES, p("u.xy - v.x*w.y")), p("2*w^2*w.x - 2*u*u.y"))

    def test_against_steps_by_hand(self):
        chance = random.Random(22)
        for ranking, pairs in ALL:
            for _ in range(20):
                one = some_polynomial(chance, ranking)
                told = normal(ranking, pairs, one)
                need_polynomial(told)
                self.assertEqual(told, normal_by_hand(ranking, pairs, one))
                self.assertIs(is_reduced(ranking, pairs, told), True)
                self.assertEqual(normal(ranking, pairs, told), told)

    def test_sums_and_products(self):
        chance = random.Random(23)
        for ranking, pairs in ALL:
            for _ in range(12):
                one, other = (some_polynomial(chance, ranking, 2) for _ in range(2))
                forms = normal(ranking, pairs, one), normal(ranking, pairs, other)
                self.assertEqual(normal(ranking, pairs, plus(one, other)), plus(*forms))
                self.assertEqual(normal(ranking, pairs, times(one, other)), times(*forms))

    def test_reduced(self):
        for text, due in (("u.y", True), ("u.xx", False), ("u.x*u.xxy", False), ("v.xxx", True), ("0", True)):
            self.assertIs(is_reduced(*HEAT, p(text)), due)
        self.assertIs(is_reduced(*HEAT, high("u", 60)), False)
        self.assertIs(is_reduced(*HEAT, high("v", 60)), True)
        self.assertIs(is_reduced(*HEAT, raised(p("v"), 40)), True)
        ranking, pairs = HEAT
        self.assertIs(is_reduced(ranking=ranking, chain=pairs, polynomial=p("u.xx")), False)

    def test_goes_out(self):
        for text, due in (("u.xxy - u.yy", True), ("u.xx", False), ("0", True), ("1", False), ("u.xx^2 - u.y^2", True)):
            self.assertIs(goes_out(*HEAT, p(text)), due)
        for ranking, pairs in (HEAT, WAVE, SWING, SQUARES):
            for pair in pairs:
                one = equation_of(ranking, pair)
                self.assertIs(goes_out(ranking, pairs, times(one, p("u.x + 1"))), True)
                self.assertIs(goes_out(ranking, pairs, derived(one, "x")), True)
        self.assertIs(goes_out(*OPEN, derived(equation_of(UV, OPEN[1][1]), "y")), False)
        ranking, pairs = HEAT
        self.assertIs(goes_out(ranking=ranking, chain=pairs, polynomial=p("u.xx - u.y")), True)

    def test_like_ones(self):
        self.assertIs(are_like(*HEAT, p("u.xxxx"), p("u.xxy")), True)
        self.assertIs(are_like(*HEAT, p("u.xxxx"), p("u.xy")), False)
        self.assertIs(are_like(*HEAT, p("u.xx*v"), p("u.y*v + 1")), False)
        ranking, pairs = HEAT
        self.assertIs(are_like(ranking=ranking, chain=pairs, polynomial=p("u"), other=p("u")), True)

    def test_met(self):
        for (ranking, pairs), text, due in (
            (HEAT, "u.xxxx", ("u.xxy", "u.xxxx")),
            (HEAT, "u.y + v", ()),
            (HEAT, "0", ()),
            (SWING, "u.xx*v", ("v.x", "u.xx")),
            (OPEN, "u.xy*u.y", ("u.y", "u.x", "u.xy")),
            (SQUARES, "u.xxxx", ("u.xx", "u.xxx", "u.xxxx")),
        ):
            told = met(ranking, pairs, p(text))
            self.assertIs(type(told), list)
            self.assertEqual(told, [d(one) for one in due])
        ranking, pairs = HEAT
        self.assertEqual(met(ranking=ranking, chain=pairs, polynomial=p("u.xx")), [d("u.xx")])

    def test_met_against_the_document(self):
        chance = random.Random(24)
        for ranking, pairs in ALL:
            for _ in range(15):
                one = some_polynomial(chance, ranking)
                due = set()
                waiting = list(derivatives_in(one))
                while waiting:
                    derivative = waiting.pop()
                    put = put_by_hand(ranking, pairs, derivative)
                    if put is not None and derivative not in due:
                        due.add(derivative)
                        waiting.extend(derivatives_in(put[3]))
                told = met(ranking, pairs, one)
                self.assertEqual(sorted(told), sorted(due))
                for low, above in zip(told, told[1:]):
                    self.assertEqual(rank_compared(ranking, low, above), -1)

    def test_the_list_is_the_askers_own(self):
        met(*HEAT, p("u.xx")).clear()
        self.assertEqual(met(*HEAT, p("u.xx")), [d("u.xx")])


class Bounds(unittest.TestCase):
    """Each of these wants a NORMAL FORM; like asks whether a POLYNOMIAL is LIKE nought, and nought LIKE it."""

    def each(self, ranking, pairs, one):
        yield lambda: normal(ranking, pairs, one)
        yield lambda: goes_out(ranking, pairs, one)
        yield lambda: are_like(ranking, pairs, one, ())
        yield lambda: are_like(ranking, pairs, (), one)

    def stands(self, ranking, pairs, one, due):
        told = [call() for call in self.each(ranking, pairs, one)]
        self.assertEqual(told[0], due)
        self.assertEqual(told[1:], [due == ()] * 3)

    def too_great(self, ranking, pairs, one):
        need_chain(ranking, pairs)
        for call in self.each(ranking, pairs, one):
            with self.assertRaises(TooGreat):
                call()

    def test_orders(self):
        pairs = chain("u.x = u")
        self.stands(ONE_AXIS, pairs, high("u", 24), p("u"))
        self.too_great(ONE_AXIS, pairs, high("u", 25))
        self.too_great(ONE_AXIS, pairs, plus(high("u", 25), p("u")))
        self.stands(ONE_AXIS, pairs, high("v", 25), high("v", 25))
        self.assertEqual(len(met(ONE_AXIS, pairs, high("u", 24))), 24)
        with self.assertRaises(TooGreat):
            met(ONE_AXIS, pairs, high("u", 25))

    def test_orders_of_both_axes_together(self):
        self.stands(*HEAT, of_derivative(("u", 2, 22)), of_derivative(("u", 0, 23)))
        self.stands(*HEAT, of_derivative(("u", 12, 12)), of_derivative(("u", 0, 18)))
        self.too_great(*HEAT, of_derivative(("u", 2, 23)))
        self.too_great(*HEAT, of_derivative(("u", 13, 12)))

    def test_orders_of_one_that_is_only_met(self):
        pairs = chain("v.xx = 0", "u = v.x")
        self.stands(NAMES, pairs, high("u", 23), ())
        self.too_great(NAMES, pairs, high("u", 24))
        with self.assertRaises(TooGreat):
            met(NAMES, pairs, high("u", 24))

    def test_what_is_not_met_is_not_asked(self):
        pairs = chain("u.x = u")
        self.assertIs(are_like(ONE_AXIS, pairs, high("u", 30), high("u", 30)), True)
        self.assertIs(are_like(ONE_AXIS, pairs, plus(high("u", 30), p("u.x")), plus(high("u", 30), p("u"))), True)
        self.assertIs(are_like(ONE_AXIS, pairs, raised(p("v"), 17), raised(p("v"), 17)), True)

    def test_terms(self):
        for many in (119, 120):
            self.stands(NAMES, (), sum_of_terms("v", many), sum_of_terms("v", many))
        self.too_great(NAMES, (), sum_of_terms("v", 121))
        for sides, due in (((10, 12), False), ((11, 11), True), ((1, 120), False), ((1, 121), True)):
            pairs = ((d("v"), sum_of_terms("w", sides[1])),)
            one = times(p("v"), sum_of_terms("u", sides[0]))
            need_chain(NAMES, pairs)
            if due:
                self.too_great(NAMES, pairs, one)
            else:
                self.stands(NAMES, pairs, one, times(sum_of_terms("u", sides[0]), sum_of_terms("w", sides[1])))

    def test_terms_of_one_that_is_only_met(self):
        for many in (120, 121):
            pairs = ((d("v"), sum_of_terms("w", many)),)
            # The DERIVATIVE goes against what is put for it, so that nought is left.
            one = less(p("v"), sum_of_terms("w", many))
            if many == 120:
                self.stands(NAMES, pairs, one, ())
            else:
                self.too_great(NAMES, pairs, one)
            self.assertEqual(met(NAMES, pairs, one), [d("v")])

    def test_terms_of_one_that_is_met_behind_another(self):
        # u.x puts v.x; v.y goes out, and the product with it, but v.x is MET all the same.
        for many, due in ((120, False), (121, True)):
            pairs = ((d("v.y"), ()), (d("v.x"), sum_of_terms("w", many)), (d("u"), p("v")))
            need_chain(NAMES, pairs)
            self.stands(NAMES, pairs, p("v.y"), ())
            self.assertEqual(met(NAMES, pairs, p("u.x*v.y")), [d("v.y"), d("v.x"), d("u.x")])
            if due:
                self.too_great(NAMES, pairs, p("u.x*v.y"))
            else:
                self.stands(NAMES, pairs, p("u.x*v.y"), ())

    def test_what_has_many_terms_on_the_way_alone(self):
        pairs = ((d("v"), ()),)
        one = times(times(sum_of_terms("u", 20), sum_of_terms("w", 20)), p("v"))
        self.stands(NAMES, pairs, one, ())

    def test_far_beyond(self):
        # Some 10**9 terms: none of them need be reckoned.
        pairs = ((d("v"), sum_of_terms("w", 60)),)
        for text in ("v^8", "v.xx^8*v^4 + u", "v^5*u.x - v^6"):
            with self.assertRaises(TooGreat):
                normal(NAMES, pairs, p(text))

    def test_many_products_that_go_against_each_other(self):
        terms = sum_of_terms("w", 8)
        pairs = ((d("v"), terms),)
        one = times(less(raised(p("v"), 4), raised(terms, 4)), sum_of_terms("u", 6))
        self.assertEqual(normal(NAMES, pairs, one), ())
        more = times(sum_of_terms("w", 121), p("u^2"))
        self.assertEqual(normal(NAMES, pairs, plus(one, more[1:])), more[1:])
        with self.assertRaises(TooGreat):
            normal(NAMES, pairs, plus(one, more))

    def test_degrees(self):
        self.stands(UV, (), raised(p("u"), 16), raised(p("u"), 16))
        self.too_great(UV, (), raised(p("u"), 17))
        self.too_great(UV, (), times(raised(p("u"), 8), raised(p("v"), 9)))
        pairs = chain("v = w^9")
        self.stands(NAMES, pairs, p("v*u^7"), p("w^9*u^7"))
        self.too_great(NAMES, pairs, p("v*u^8"))
        self.too_great(NAMES, pairs, p("v^2"))

    def test_degrees_of_one_that_is_only_met(self):
        for power, due in ((16, False), (17, True)):
            pairs = ((d("v"), raised(p("w"), power)),)
            one = less(p("v"), raised(p("w"), power))
            if due:
                self.too_great(NAMES, pairs, one)
            else:
                self.stands(NAMES, pairs, one, ())

    def test_a_degree_that_goes_out(self):
        pairs = chain("v = w", "u.x = 0")
        one = times(raised(p("v"), 20), p("u.x"))
        self.stands(NAMES, pairs, one, ())
        self.stands(NAMES, pairs, less(raised(p("v"), 20), raised(p("w"), 20)), ())

    def test_growing_squares(self):
        pairs = chain("u.x = u^2")
        due = constant((1, 1))
        for order in range(1, 16):
            due = scaled(due, (order, 1))
            self.stands(ONE_AXIS, pairs, high("u", order), times(due, raised(p("u"), order + 1)))
        self.too_great(ONE_AXIS, pairs, high("u", 16))
        self.too_great(ONE_AXIS, pairs, high("u", 24))


class Refused(unittest.TestCase):
    NO_CHAINS = NO_CHAINS + [list(HEAT[1]), chain("u = u"), chain("u.xx = 0", "u = 0"), chain("w = 0")]

    def test_derivatives(self):
        refused_in_order(
            self,
            put_for,
            (*HEAT, d("u.xx")),
            ((BadRanking, NO_RANKINGS), (BadChain, self.NO_CHAINS), (OutOfPlace, NO_DERIVATIVES)),
        )

    def test_polynomials(self):
        bad = ((BadRanking, NO_RANKINGS), (BadChain, self.NO_CHAINS), (BadPolynomial, NO_POLYNOMIALS))
        for call in (step_of, normal, is_reduced, goes_out, met):
            refused_in_order(self, call, (*HEAT, p("u.xx")), bad)
        refused_in_order(self, are_like, (*HEAT, p("u.xx"), p("u.y")), (*bad, (BadPolynomial, NO_POLYNOMIALS)))

    def test_places(self):
        for call in (step_of, normal, is_reduced, goes_out, met):
            with self.assertRaises(BadPolynomial) as caught:
                call(*HEAT, ((), ()))
            self.assertIsNone(caught.exception.number)
            with self.assertRaises(BadChain) as refused:
                call(UV, chain("v = 0", "u = v"), 7)
            self.assertEqual(refused.exception.place, ("principal", 1))
            with self.assertRaises(BadRanking) as wrong:
                call(("total", ("u",), ("y",)), (), ())
            self.assertEqual(wrong.exception.place, "axes")

    def test_too_great_comes_last(self):
        with self.assertRaises(BadPolynomial):
            are_like(*HEAT, high("u", 40), 3)
        with self.assertRaises(OutOfPlace):
            put_for(*HEAT, ("w", 40, 0))

    def test_what_is_handed_in_is_as_it_was(self):
        ranking, pairs = chain_and_kept = (UV, chain("u.xx = u.y"))
        one = p("u.xxx*v + u.xx")
        for call in (step_of, normal, is_reduced, goes_out, met):
            call(ranking, pairs, one)
        self.assertEqual(chain_and_kept, HEAT)
        self.assertEqual(one, p("u.xxx*v + u.xx"))


if __name__ == "__main__":
    unittest.main()
