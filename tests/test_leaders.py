"""rankedchains.leaders: promises [12], [13] and [14]."""

import itertools
import random
import unittest

from rankedchains.errors import BadPolynomial, BadRanking, OutOfPlace
from rankedchains.leaders import (
    coefficients_of,
    head_of,
    initial_of,
    leader_of,
    led_of,
    monomials_compared,
    separant_of,
)
from rankedchains.numbers import fraction
from rankedchains.polynomials import (
    constant,
    derivatives_in,
    derived,
    less,
    need_polynomial,
    of_derivative,
    plus,
    raised,
    scaled,
    times,
)
from rankedchains.rankings import rank_compared
from things import NO_POLYNOMIALS, NO_RANKINGS, Odd, but, d, p, refused_in_order

UV = ("total", ("u", "v"), ("x", "y"))
RANKINGS = list(itertools.product(("total", "names"), (("u", "v"), ("v", "u")), (("x", "y"), ("y", "x"))))
DERIVATIVES = [d(text) for text in ("u", "u.x", "u.y", "u.xy", "v", "v.xx", "v.y")]
NO_MONOMIALS = but(()) + [
    ((d("w"), 1),),
    ((d("u"), 0),),
    ((d("u"), True),),
    ((d("v"), 1), (d("u"), 1)),
    ((d("u"), 1), (d("u"), 1)),
    [(d("u"), 1)],
    ((Odd(), 1),),
    p("u"),
]


def monomial(text):
    return p(text)[0][0]


def greater(ranking, one, other):
    """Whether the first MONOMIAL is greater, word by word as [12] has it."""
    powers = dict(one), dict(other)
    unlike = [der for der in DERIVATIVES if powers[0].get(der, 0) != powers[1].get(der, 0)]
    for der in unlike:
        if all(rank_compared(ranking, der, each) >= 0 for each in unlike):
            return powers[0].get(der, 0) > powers[1].get(der, 0)
    return False


def some_polynomial(chance, terms=5, most=3):
    total = ()
    for _ in range(chance.randint(0, terms)):
        part = constant(fraction(chance.randint(-4, 4), chance.randint(1, 4)))
        for derivative in chance.sample(DERIVATIVES, chance.randint(0, 3)):
            part = times(part, of_derivative(derivative, power=chance.randint(1, most)))
        total = plus(total, part)
    return total


class Monomials(unittest.TestCase):
    def test_some_by_hand(self):
        for low, high in (
            ("1", "v"),
            ("v", "u"),
            ("v^9", "u"),
            ("u", "u*v"),
            ("u*v^3", "u^2"),
            ("u^5*v.y", "v.y^2"),
            ("u.y*u^2", "u.x"),
            ("u.x*v", "u.x*u"),
            ("u.x*u*v", "u.x*u*v^2"),
            ("u.x*v.y^3*u", "u.x*u.y"),
        ):
            self.assertEqual(monomials_compared(UV, monomial(low), monomial(high)), -1, (low, high))
            self.assertEqual(monomials_compared(UV, monomial(high), monomial(low)), 1)
            self.assertEqual(monomials_compared(UV, monomial(low), monomial(low)), 0)
        self.assertEqual(monomials_compared(ranking=UV, one=(), other=()), 0)

    def test_against_the_document(self):
        chance = random.Random(11)
        for ranking in RANKINGS:
            for _ in range(60):
                one, other, third = (
                    tuple(sorted((der, chance.randint(1, 3)) for der in chance.sample(DERIVATIVES, chance.randint(0, 4))))
                    for _ in range(3)
                )
                due = 0 if one == other else (1 if greater(ranking, one, other) else -1)
                self.assertEqual(monomials_compared(ranking, one, other), due)
                by_third = [
                    times(((each, (1, 1)),), ((third, (1, 1)),))[0][0] for each in (one, other)
                ]
                self.assertEqual(monomials_compared(ranking, *by_third), due)

    def test_refused(self):
        refused_in_order(
            self,
            monomials_compared,
            (UV, (), ()),
            ((BadRanking, NO_RANKINGS), (OutOfPlace, NO_MONOMIALS), (OutOfPlace, NO_MONOMIALS)),
        )
        with self.assertRaises(OutOfPlace):
            monomials_compared(("total", ("u",), ("x",)), (), monomial("u.y"))


class Parts(unittest.TestCase):
    def test_heads(self):
        one = p("3*u.x^2*v + 1/2*u.x^2*v.y - v^9 + 4")
        self.assertEqual(head_of(UV, one), (monomial("u.x^2*v.y"), (1, 2)))
        self.assertEqual(head_of(("names", ("v", "u"), ("x", "y")), one), (monomial("u.x^2*v.y"), (1, 2)))
        self.assertEqual(head_of(("names", ("v", "u"), ("x",)), p("v^9 - 2*v^8*u.xxx")), (monomial("v^9"), (1, 1)))
        self.assertEqual(head_of(ranking=UV, polynomial=p("-5/2")), ((), (-5, 2)))
        self.assertIsNone(head_of(UV, ()))

    def test_leaders(self):
        self.assertEqual(leader_of(UV, p("u.x + u.y + v.x^3")), d("u.x"))
        self.assertEqual(leader_of(("total", ("u", "v"), ("y", "x")), p("u.x + u.y + v.x^3")), d("u.y"))
        self.assertEqual(leader_of(("names", ("v", "u"), ("x", "y")), p("u.xx + v + 1")), d("v"))
        self.assertEqual(leader_of(ranking=UV, polynomial=p("v*u")), d("u"))
        for number in ((), p("1"), p("-7/3")):
            self.assertIsNone(leader_of(UV, number))

    def test_coefficients(self):
        one = p("u.x^3*v + 2*u.x^3 + u.x*u - 1/2*u.x + v.y^2 - 4")
        told = coefficients_of(UV, one)
        self.assertIs(type(told), list)
        self.assertEqual(told, [p("v.y^2 - 4"), p("u - 1/2"), (), p("v + 2")])
        self.assertEqual(coefficients_of(ranking=UV, polynomial=p("u")), [(), p("1")])
        self.assertEqual(coefficients_of(UV, p("u^2")), [(), (), p("1")])
        self.assertEqual(initial_of(UV, one), p("v + 2"))
        self.assertEqual(initial_of(ranking=UV, polynomial=p("-3*u.x + v")), p("-3"))

    def test_separants(self):
        one = p("u.x^3*v + 2*u.x^3 + u.x*u - 1/2*u.x + v.y^2 - 4")
        self.assertEqual(separant_of(UV, one), p("3*u.x^2*v + 6*u.x^2 + u - 1/2"))
        self.assertEqual(separant_of(ranking=UV, polynomial=p("7*u.x")), p("7"))
        self.assertEqual(separant_of(UV, p("u^9")), p("9*u^8"))

    def test_what_numbers_have_not(self):
        for number in ((), p("1"), p("-7/3")):
            for call in (coefficients_of, initial_of, separant_of):
                with self.assertRaises(OutOfPlace):
                    call(UV, number)

    def test_against_the_document(self):
        chance = random.Random(12)
        for ranking in RANKINGS:
            for _ in range(25):
                one = some_polynomial(chance)
                if not one:
                    continue
                head = head_of(ranking, one)
                self.assertIn(head, one)
                for found, _ in one:
                    self.assertGreaterEqual(monomials_compared(ranking, head[0], found), 0)
                leader = leader_of(ranking, one)
                if leader is None:
                    continue
                self.assertTrue(all(rank_compared(ranking, leader, der) >= 0 for der in derivatives_in(one)))
                total, slope = (), ()
                parts = coefficients_of(ranking, one)
                for power, part in enumerate(parts):
                    need_polynomial(part)
                    self.assertNotIn(leader, derivatives_in(part))
                    total = plus(total, times(part, raised(of_derivative(leader), power)))
                    if power:
                        slope = plus(slope, scaled(times(part, of_derivative(leader, power=power - 1)), (power, 1)))
                self.assertEqual(total, one)
                self.assertEqual(initial_of(ranking, one), parts[-1])
                self.assertNotEqual(parts[-1], ())
                self.assertEqual(separant_of(ranking, one), slope)
                for axis, by_x, by_y in (("x", 1, 0), ("y", 0, 1)):
                    more = derived(one, axis)
                    self.assertEqual(leader_of(ranking, more), (leader[0], leader[1] + by_x, leader[2] + by_y))
                    self.assertEqual(len(coefficients_of(ranking, more)), 2)
                    self.assertEqual(initial_of(ranking, more), slope)

    def test_the_list_is_the_askers_own(self):
        coefficients_of(UV, p("u + 1")).clear()
        self.assertEqual(coefficients_of(UV, p("u + 1")), [p("1"), p("1")])


class Led(unittest.TestCase):
    def test_led(self):
        self.assertEqual(led_of(UV, p("u.x - v")), (d("u.x"), p("v")))
        self.assertEqual(led_of(UV, p("-2/3*u.x + u*v^2 - 4")), (d("u.x"), p("3/2*u*v^2 - 6")))
        self.assertEqual(led_of(UV, p("5*v")), (d("v"), ()))
        self.assertEqual(led_of(UV, p("3*v + 1")), (d("v"), p("-1/3")))
        self.assertEqual(led_of(ranking=UV, polynomial=p("u + v^9")), (d("u"), p("-v^9")))

    def test_not_led(self):
        for text in ("0", "1", "-7/2", "u^2", "u.x*v", "u.x*v + u.x", "u^2 + u", "u.x^2 - v", "u.x + u.x*u.y"):
            self.assertIsNone(led_of(UV, p(text)), text)

    def test_it_hangs_on_the_ranking(self):
        one = p("u*v + v.x")
        self.assertEqual(led_of(UV, one), (d("v.x"), p("-u*v")))
        self.assertIsNone(led_of(("names", ("u", "v"), ("x", "y")), one))

    def test_against_the_document(self):
        chance = random.Random(13)
        seen = [0, 0]
        for ranking in RANKINGS:
            for _ in range(60):
                one = some_polynomial(chance, 4, 1)
                head, told = head_of(ranking, one), led_of(ranking, one)
                due = head is not None and len(head[0]) == 1 and head[0][0][1] == 1
                self.assertEqual(told is not None, due)
                seen[due] += 1
                if due:
                    leader, right = told
                    self.assertEqual(leader, leader_of(ranking, one))
                    self.assertEqual(scaled(less(of_derivative(leader), right), head[1]), one)
                    self.assertTrue(all(rank_compared(ranking, leader, der) > 0 for der in derivatives_in(right)))
        self.assertTrue(min(seen) > 20)


class Refused(unittest.TestCase):
    def test_all(self):
        for call in (head_of, leader_of, coefficients_of, initial_of, separant_of, led_of):
            refused_in_order(
                self, call, (UV, p("u + v")), ((BadRanking, NO_RANKINGS), (BadPolynomial, NO_POLYNOMIALS))
            )
            for ranking, one in (
                (UV, ((), ())),
                (UV, p("u + w")),
                (("total", ("u",), ("x",)), p("u.y")),
                (UV, ((((d("u")), 1), (1, 1)), 3)),
            ):
                with self.assertRaises(BadPolynomial) as caught:
                    call(ranking, one)
                self.assertIsNone(caught.exception.number)


if __name__ == "__main__":
    unittest.main()
