"""rankedchains.polynomials: promises [1] to [4], and what [0] says of them."""

import random
import unittest
from fractions import Fraction

from rankedchains.errors import BadPolynomial
from rankedchains.numbers import NOUGHT, ONE, fraction
from rankedchains.polynomials import (
    constant,
    degree_of,
    derivatives_in,
    derived,
    is_derivative,
    is_number,
    is_polynomial,
    less,
    names_in,
    need_polynomial,
    number_in,
    of_derivative,
    order_of,
    plus,
    put_into,
    raised,
    scaled,
    times,
    value_of,
)
from things import Odd, d, p, things

U, V, W = ("u", 0, 0), ("v", 0, 0), ("w", 0, 0)
UX, UY, UXY = ("u", 1, 0), ("u", 0, 1), ("u", 1, 1)
DERIVATIVES = [U, UX, UY, UXY, V, ("v", 0, 2)]


def some_polynomial(chance, terms=5, greatest=2):
    total = ()
    for _ in range(chance.randint(0, terms)):
        part = constant(fraction(chance.randint(-4, 4), chance.randint(1, 4)))
        for derivative in chance.sample(DERIVATIVES, chance.randint(0, 3)):
            part = times(part, of_derivative(derivative, power=chance.randint(1, greatest)))
        total = plus(total, part)
    return total


def some_numbers(chance):
    return {one: fraction(chance.randint(-5, 5), chance.randint(1, 4)) for one in DERIVATIVES[:-1]}


def at(one, numbers):
    """The VALUE, reckoned from the tuples alone."""
    total = Fraction(0)
    for monomial, number in one:
        part = Fraction(*number)
        for derivative, power in monomial:
            part *= Fraction(*numbers.get(derivative, (0, 1))) ** power
        total += part
    return total


class Forms(unittest.TestCase):
    def test_derivatives(self):
        for thing in (U, UX, UXY, ("abcdefgh", 7, 30), ("x", 0, 0), ("u", 10**20, 0)):
            self.assertIs(is_derivative(thing), True)
        self.assertIs(is_derivative(thing=U), True)

    def test_no_derivatives(self):
        for thing in (
            ("u", 0),
            ("u", 0, 0, 0),
            ["u", 0, 0],
            ("u", -1, 0),
            ("u", 0, -1),
            ("u", True, 0),
            ("u", 0, False),
            ("u", 1.0, 0),
            ("u", 0, "0"),
            ("U", 0, 0),
            ("", 0, 0),
            ("abcdefghi", 0, 0),
            ("u\n", 0, 0),
            (b"u", 0, 0),
            (None, 0, 0),
            (0, 0, "u"),
            (Odd(), 0, 0),
            ("u", Odd(), 0),
            ("u", 0, Odd()),
        ):
            self.assertIs(is_derivative(thing), False)
        for thing in things():
            self.assertIs(is_derivative(thing), repr(thing) == repr(U))

    def test_polynomials(self):
        for thing in (
            (),
            (((), (1, 1)),),
            (((), (-1, 2)), (((U, 1),), (1, 1))),
            ((((U, 1),), (1, 1)), (((U, 1), (V, 1)), (2, 3)), (((U, 2),), (1, 1))),
            ((((U, 3), (UX, 1)), (-5, 2)),),
        ):
            self.assertIs(is_polynomial(thing), True)
            self.assertIsNone(need_polynomial(thing))
        self.assertIs(is_polynomial(thing=()), True)
        self.assertIsNone(need_polynomial(thing=()))

    def refused(self, thing, number):
        with self.assertRaises(BadPolynomial) as caught:
            need_polynomial(thing)
        self.assertEqual(caught.exception.number, number)
        self.assertIs(is_polynomial(thing), False)

    def test_no_tuple(self):
        for thing in things():
            if type(thing) is not tuple:
                self.refused(thing, None)
        self.refused([((), (1, 1))], None)

    def test_things_that_can_not_be_by_themselves(self):
        good = ((), (1, 1))
        term = (((("u", 0, 0), 1),), (1, 1))
        for bad in (
            *[thing for thing in things() if repr(thing) != repr(term)],
            [(), (1, 1)],
            ((), (0, 1)),
            ((), (2, 2)),
            ((), (1, 0)),
            ((), (1, -1)),
            ((), (True, 1)),
            ((), 1),
            ((),),
            ((), (1, 1), ()),
            ([], (1, 1)),
            ((U,), (1, 1)),
            (((U, 0),), (1, 1)),
            (((U, -1),), (1, 1)),
            (((U, True),), (1, 1)),
            (((U, 1, 1),), (1, 1)),
            (([U, 1],), (1, 1)),
            (((("U", 0, 0), 1),), (1, 1)),
            (((("u", True, 0), 1),), (1, 1)),
            (((U, 1), (U, 1)), (1, 1)),
            (((V, 1), (U, 1)), (1, 1)),
            (((UX, 1), (U, 1)), (1, 1)),
            (((Odd(), 1),), (1, 1)),
            ((Odd(),), (1, 1)),
            (((U, 1),), Odd()),
        ):
            self.refused((bad,), 0)
            self.refused((good, bad), 1)
            self.refused((good, bad, bad), 1)

    def test_things_that_can_not_be_behind_the_one_ahead(self):
        one, u, v, uu = ((), (1, 1)), (((U, 1),), (1, 1)), (((V, 1),), (1, 1)), (((U, 2),), (1, 1))
        self.refused((one, one), 1)
        self.refused((u, one), 1)
        self.refused((one, u, u), 2)
        self.refused((one, u, (((U, 1),), (2, 1))), 2)
        self.refused((one, v, u), 2)
        self.refused((one, uu, u, v), 2)
        self.refused((u, v, uu), 2)
        self.assertIsNone(need_polynomial((one, u, uu, v)))

    def test_like_ones_are_equal(self):
        self.assertEqual(times(p("u + v"), p("u - v")), p("u*u - v^2"))
        self.assertEqual(less(p("u"), p("u")), ())


class Reckoned(unittest.TestCase):
    def test_against_values(self):
        chance = random.Random(1)
        for _ in range(120):
            one, other, numbers = some_polynomial(chance), some_polynomial(chance), some_numbers(chance)
            number = fraction(chance.randint(-3, 3), chance.randint(1, 3))
            power = chance.randint(0, 3)
            for told, due in (
                (plus(one, other), at(one, numbers) + at(other, numbers)),
                (less(one, other), at(one, numbers) - at(other, numbers)),
                (times(one, other), at(one, numbers) * at(other, numbers)),
                (scaled(one, number), at(one, numbers) * Fraction(*number)),
                (raised(one, power), at(one, numbers) ** power),
            ):
                need_polynomial(told)
                self.assertEqual(at(told, numbers), due)
            self.assertEqual(Fraction(*value_of(one, numbers)), at(one, numbers))

    def test_laws(self):
        chance = random.Random(2)
        for _ in range(60):
            one, other, third = (some_polynomial(chance) for _ in range(3))
            self.assertEqual(times(one, plus(other, third)), plus(times(one, other), times(one, third)))
            self.assertEqual(times(one, other), times(other, one))
            self.assertEqual(plus(one, other), plus(other, one))
            self.assertEqual(less(plus(one, other), other), one)
            for axis in ("x", "y"):
                told = derived(times(one, other), axis)
                need_polynomial(told)
                due = plus(times(derived(one, axis), other), times(one, derived(other, axis)))
                self.assertEqual(told, due)
            mixed = derived(derived(one, "x"), "y")
            self.assertEqual(mixed, derived(derived(one, "y"), "x"))

    def test_sums(self):
        self.assertEqual(plus(p("u + 1"), p("v - 1")), p("u + v"))
        self.assertEqual(plus((), p("u")), p("u"))
        self.assertEqual(plus(one=p("u"), other=()), p("u"))
        self.assertEqual(less(one=p("u"), other=p("1/2*u")), p("1/2*u"))
        self.assertEqual(less((), p("u")), p("-u"))

    def test_products(self):
        self.assertEqual(times((), p("u")), ())
        self.assertEqual(times(one=p("u"), other=()), ())
        self.assertEqual(times(p("2"), p("1/2")), p("1"))
        self.assertEqual(times(p("u + v"), p("u - v")), p("u^2 - v^2"))
        self.assertEqual(scaled(p("u + 1"), NOUGHT), ())
        self.assertEqual(scaled((), (2, 1)), ())
        self.assertEqual(scaled(one=p("2*u - 4"), number=(1, 2)), p("u - 2"))

    def test_powers(self):
        self.assertEqual(raised(p("u + 1"), 0), p("1"))
        self.assertEqual(raised((), 0), p("1"))
        self.assertEqual(raised((), 3), ())
        self.assertEqual(raised(p("u + 1"), 1), p("u + 1"))
        self.assertEqual(raised(one=p("u + 1"), power=3), p("u^3 + 3*u^2 + 3*u + 1"))
        self.assertEqual(of_derivative(UX), p("u.x"))
        self.assertEqual(of_derivative(derivative=UX, power=1), p("u.x"))
        self.assertEqual(of_derivative(UX, power=4), p("u.x^4"))
        self.assertEqual(of_derivative(UX, power=0), p("1"))
        with self.assertRaises(TypeError):
            of_derivative(UX, 4)

    def test_constants(self):
        self.assertEqual(constant(NOUGHT), ())
        self.assertEqual(constant(ONE), (((), (1, 1)),))
        self.assertEqual(constant(number=(-2, 3)), (((), (-2, 3)),))

    def test_values(self):
        one = p("2*u^2*v - 1/3*u.x + 5")
        self.assertEqual(value_of(one, {}), (5, 1))
        self.assertEqual(value_of(one, {U: (3, 1)}), (5, 1))
        self.assertEqual(value_of(one=one, numbers={U: (3, 1), V: (1, 2), UX: (-3, 1), W: (7, 1)}), (15, 1))
        self.assertEqual(value_of((), {U: (1, 1)}), NOUGHT)
        self.assertEqual(value_of(p("u^9"), {U: (-1, 2)}), (-1, 512))


class Derived(unittest.TestCase):
    def test_by_the_document(self):
        self.assertEqual(derived(p("u^3*v.x"), "x"), p("3*u^2*u.x*v.x + u^3*v.xx"))
        self.assertEqual(derived(p("u^3*v.x"), "y"), p("3*u^2*u.y*v.x + u^3*v.xy"))
        self.assertEqual(derived(p("u*u.x"), "x"), p("u.x^2 + u*u.xx"))
        self.assertEqual(derived(p("1/2*u.x^2"), "x"), p("u.x*u.xx"))

    def test_what_goes_against_each_other(self):
        self.assertEqual(derived(p("u*v.x - u.x*v"), "x"), p("u*v.xx - u.xx*v"))

    def test_numbers_and_nought(self):
        for axis in ("x", "y"):
            self.assertEqual(derived((), axis), ())
            self.assertEqual(derived(p("7/2"), axis), ())
            self.assertEqual(derived(p("7/2 + u"), axis, many=0), p("7/2 + u"))

    def test_many_times(self):
        self.assertEqual(derived(p("u"), "x", many=5), of_derivative(("u", 5, 0)))
        self.assertEqual(derived(one=p("u^2"), axis="y", many=2), p("2*u.y^2 + 2*u*u.yy"))
        self.assertEqual(derived(derived(p("u"), "y", many=3), "x", many=2), of_derivative(("u", 2, 3)))
        self.assertEqual(derived(p("u^2"), "x", many=1), derived(p("u^2"), "x"))
        with self.assertRaises(TypeError):
            derived(p("u"), "x", 2)

    def test_one_power_goes(self):
        self.assertEqual(derived(p("u.x*v"), "x"), p("u.xx*v + u.x*v.x"))


class Put(unittest.TestCase):
    def test_put(self):
        self.assertEqual(put_into(p("u^2 + u + v"), U, p("v + 1")), p("v^2 + 4*v + 2"))
        self.assertEqual(put_into(one=p("u*v"), derivative=U, other=()), ())
        self.assertEqual(put_into(p("u*v + 3"), U, ()), p("3"))
        self.assertEqual(put_into(p("u.x + u"), U, p("v")), p("u.x + v"))
        self.assertEqual(put_into(p("u + 1"), V, p("w")), p("u + 1"))
        self.assertEqual(put_into((), U, p("w")), ())
        self.assertEqual(put_into(p("5"), U, p("w")), p("5"))
        self.assertEqual(put_into(p("u^2 - v^2"), U, p("v")), ())

    def test_it_may_stand_in_what_is_put(self):
        self.assertEqual(put_into(p("u^2"), U, p("u + 1")), p("u^2 + 2*u + 1"))
        self.assertEqual(put_into(p("u^2 + v*u^9"), U, p("u")), p("u^2 + v*u^9"))

    def test_against_values(self):
        chance = random.Random(3)
        for _ in range(80):
            one, other, numbers = some_polynomial(chance), some_polynomial(chance, 3), some_numbers(chance)
            derivative = chance.choice(DERIVATIVES)
            told = put_into(one, derivative, other)
            need_polynomial(told)
            changed = dict(numbers)
            worth = at(other, numbers)
            changed[derivative] = (worth.numerator, worth.denominator)
            self.assertEqual(at(told, numbers), at(one, changed))


class Looked(unittest.TestCase):
    def test_numbers(self):
        for one, whether, number in (
            ((), True, NOUGHT),
            (p("3/2"), True, (3, 2)),
            (p("u"), False, NOUGHT),
            (p("u - 4"), False, (-4, 1)),
        ):
            self.assertIs(is_number(one), whether)
            self.assertEqual(number_in(one), number)
        self.assertIs(is_number(one=()), True)
        self.assertEqual(number_in(one=()), NOUGHT)

    def test_degrees_and_orders(self):
        for one, degree, order in (
            ((), 0, 0),
            (p("7"), 0, 0),
            (p("u"), 1, 0),
            (p("u^2*v.xy + w.xxx"), 3, 3),
            (p("u.x^4 + v*w*u"), 4, 1),
            (p("u^5 + v.xxy"), 5, 3),
        ):
            self.assertEqual(degree_of(one), degree)
            self.assertEqual(order_of(one), order)
        self.assertEqual(degree_of(one=p("u^3")), 3)
        self.assertEqual(order_of(one=p("u.xy")), 2)

    def test_what_stands_in_one(self):
        one = p("w*v.x + v.y^2*u.xy - u + 3 + u*v.x")
        self.assertEqual(derivatives_in(one), (U, UXY, ("v", 0, 1), ("v", 1, 0), W))
        self.assertEqual(names_in(one), ("u", "v", "w"))
        for nothing in ((), p("4")):
            self.assertEqual(derivatives_in(nothing), ())
            self.assertEqual(names_in(nothing), ())
        self.assertEqual(derivatives_in(one=p("u")), (U,))
        self.assertEqual(names_in(one=p("u + u.x")), ("u",))


class Kept(unittest.TestCase):
    def test_what_is_handed_in_is_as_it_was(self):
        one, other, numbers = p("u^2 + v.x - 1/2"), p("v + 3"), {U: (2, 1), V: (1, 3)}
        kept = (p("u^2 + v.x - 1/2"), p("v + 3"), {U: (2, 1), V: (1, 3)})
        for call in (plus, less, times):
            call(one, other)
        scaled(one, (2, 3))
        raised(one, 3)
        derived(one, "x", many=2)
        put_into(one, U, other)
        value_of(one, numbers)
        self.assertEqual((one, other, numbers), kept)
        self.assertEqual(list(numbers), [U, V])

    def test_a_dict_that_is_changed_later(self):
        numbers = {d("u"): (2, 1)}
        self.assertEqual(value_of(p("u"), numbers), (2, 1))
        numbers[d("u")] = (3, 1)
        self.assertEqual(value_of(p("u"), numbers), (3, 1))


if __name__ == "__main__":
    unittest.main()
