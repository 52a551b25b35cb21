"""rankedchains.spans: EQUATIONS [30], REDUCED ROWS and SPANS [31]."""

import random
import unittest

from rankedchains.errors import BadPolynomial, BadRanking
from rankedchains.leaders import head_of, monomials_compared
from rankedchains.numbers import ONE, fraction
from rankedchains.polynomials import constant, is_polynomial, plus, raised, scaled
from rankedchains.spans import MOST_EQUATIONS, is_in_span, need_equations, reduced_rows
from systems import (
    NAMES,
    ONE_AXIS,
    UV,
    YX,
    high,
    polynomials_of,
    rows_by_hand,
    some_polynomial,
    some_sum,
    sum_of_terms,
)
from things import NO_EQUATIONS, NO_POLYNOMIALS, NO_RANKINGS, WITH_NONE, Odd, p, refused_in_order


class Equations(unittest.TestCase):
    def test_none_to_twelve(self):
        self.assertEqual(MOST_EQUATIONS, 12)
        for many in range(13):
            self.assertIsNone(need_equations(UV, (p("u.xx - u.y"),) * many))
            self.assertIsNone(need_equations(ranking=UV, equations=((),) * many))
        with self.assertRaises(BadPolynomial) as caught:
            need_equations(UV, ((),) * 13)
        self.assertIsNone(caught.exception.number)

    def test_refused_by_number(self):
        for call in (need_equations, reduced_rows, lambda ranking, equations: is_in_span(ranking, equations, Odd())):
            for thing in NO_EQUATIONS:
                with self.assertRaises(BadPolynomial) as caught:
                    call(UV, thing)
                self.assertIsNone(caught.exception.number)
            for thing in NO_POLYNOMIALS:
                for place in (0, 1, 5, 11):
                    with self.assertRaises(BadPolynomial) as caught:
                        call(UV, (p("u"),) * place + (thing,) + (Odd(),) * (11 - place))
                    self.assertEqual(caught.exception.number, place)
        with self.assertRaises(BadPolynomial) as caught:
            need_equations(ONE_AXIS, polynomials_of("u.x", "u.y"))
        self.assertEqual(caught.exception.number, 1)

    def test_in_order(self):
        bad = ((BadRanking, NO_RANKINGS), (BadPolynomial, NO_EQUATIONS + WITH_NONE))
        for call in (need_equations, reduced_rows):
            refused_in_order(self, call, (UV, polynomials_of("u", "v")), bad)
        refused_in_order(
            self, is_in_span, (UV, polynomials_of("u", "v"), p("u")), (*bad, (BadPolynomial, NO_POLYNOMIALS))
        )

    def test_the_last_one_has_no_number(self):
        for thing in NO_POLYNOMIALS:
            with self.assertRaises(BadPolynomial) as caught:
                is_in_span(UV, polynomials_of("u", "v"), thing)
            self.assertIsNone(caught.exception.number)


class Rows(unittest.TestCase):
    def looked_at(self, ranking, equations):
        told = reduced_rows(ranking, equations)
        self.assertIs(type(told), tuple)
        self.assertEqual(told, rows_by_hand(ranking, equations))
        heads = [head_of(ranking, row) for row in told]
        self.assertTrue(all(number == ONE for _, number in heads))
        for one, other in zip(heads, heads[1:]):
            self.assertEqual(monomials_compared(ranking, one[0], other[0]), 1)
        for row in told:
            self.assertTrue(is_polynomial(row))
            self.assertEqual(len([head for head, _ in heads if head in dict(row)]), 1)
        self.assertEqual(reduced_rows(ranking, told), told)
        return told

    def test_by_hand(self):
        for ranking, texts, due in (
            (UV, (), ()),
            (UV, ("0",), ()),
            (UV, ("7/3",), ("1",)),
            (UV, ("0", "0", "-2*u"), ("u",)),
            (UV, ("u", "u"), ("u",)),
            (UV, ("u + v", "u - v"), ("u", "v")),
            (UV, ("2*u.x - u", "u.x + v"), ("u.x + v", "u + 2*v")),
            (UV, ("u.x - 1", "u.x"), ("u.x", "1")),
            (UV, ("u.x*v + u.y", "u.y - 3", "u.x*v"), ("u.x*v", "u.y", "1")),
            (UV, ("v.y + u.x",), ("u.x + v.y",)),
            (NAMES, ("v.xx - 2*u",), ("u - 1/2*v.xx",)),
            (UV, ("u.y + u.x",), ("u.x + u.y",)),
            (YX, ("2*u.y + u.x",), ("u.y + 1/2*u.x",)),
            (UV, ("u^2 + u", "u^2 - u + 1"), ("u^2 + 1/2", "u - 1/2")),
        ):
            self.assertEqual(self.looked_at(ranking, polynomials_of(*texts)), polynomials_of(*due), texts)
        self.assertEqual(reduced_rows(ranking=UV, equations=polynomials_of("-2*u")), polynomials_of("u"))

    def test_none_to_twelve(self):
        chance = random.Random(311)
        for ranking in (UV, YX, NAMES, ONE_AXIS):
            for many in range(13):
                some = tuple(some_polynomial(chance, ranking, 2, 4) for _ in range(many))
                self.looked_at(ranking, some)

    def test_they_hang_on_the_span_alone(self):
        chance = random.Random(312)
        for ranking in (UV, NAMES):
            for _ in range(20):
                some = [some_polynomial(chance, ranking, 2, 4) for _ in range(4)]
                due = self.looked_at(ranking, tuple(some))
                sums = [some_sum(chance, some) for _ in range(4)]
                self.assertEqual(reduced_rows(ranking, tuple(some + sums)), due)
                chance.shuffle(some)
                some = [scaled(one, fraction(chance.choice((-3, 2, 5)), 4)) for one in some]
                self.assertEqual(reduced_rows(ranking, tuple(some[:2] + some + some[3:])), due)

    def test_no_bounds(self):
        great = (sum_of_terms("v", 200), raised(p("u"), 40), high("u", 90))
        self.assertEqual(set(reduced_rows(UV, great)), set(great))


class InSpan(unittest.TestCase):
    def test_by_hand(self):
        for texts, text, due in (
            ((), "0", True),
            ((), "1", False),
            (("0",), "u", False),
            (("2",), "1/7", True),
            (("u + v", "u - v"), "v", True),
            (("u + v", "u - v"), "v + 1", False),
            (("u + v",), "u", False),
            (("u",), "u^2", False),
            (("u",), "u.x", False),
            (("u.x - u^2", "u^2 - v"), "u.x - v", True),
        ):
            self.assertIs(is_in_span(UV, polynomials_of(*texts), p(text)), due, (texts, text))
        self.assertIs(is_in_span(ranking=UV, equations=polynomials_of("u"), polynomial=p("3*u")), True)

    def test_sums_are_in(self):
        chance = random.Random(313)
        for ranking in (UV, NAMES, ONE_AXIS):
            for _ in range(30):
                some = [some_polynomial(chance, ranking, 2, 4) for _ in range(chance.randint(1, 12))]
                one = some_sum(chance, some)
                self.assertIs(is_in_span(ranking, tuple(some), one), True)
                other = plus(one, plus(some_polynomial(chance, ranking, 2), constant((1, 1))))
                due = len(rows_by_hand(ranking, some)) == len(rows_by_hand(ranking, [*some, other]))
                self.assertIs(is_in_span(ranking, tuple(some), other), due)

    def test_what_is_handed_in_is_as_it_was(self):
        some = polynomials_of("2*u.x - u", "u.x + v")
        reduced_rows(UV, some)
        is_in_span(UV, some, p("u"))
        self.assertEqual(some, polynomials_of("2*u.x - u", "u.x + v"))


if __name__ == "__main__":
    unittest.main()
