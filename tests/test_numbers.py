"""rankedchains.numbers: promise [1] of FRACTIONS, and their sums."""

import itertools
import unittest
from fractions import Fraction

from rankedchains.errors import OutOfPlace
from rankedchains.numbers import (
    NOUGHT,
    ONE,
    difference,
    fraction,
    is_fraction,
    number_text,
    product,
    quotient,
    sum_of,
)
from things import things

SOME = [fraction(top, bottom) for top in range(-6, 7) for bottom in range(1, 7)]


def as_known(one):
    return Fraction(one[0], one[1])


class Fractions(unittest.TestCase):
    def test_the_two_that_are_named(self):
        self.assertEqual(NOUGHT, (0, 1))
        self.assertEqual(ONE, (1, 1))

    def test_what_is_one(self):
        for thing in ((0, 1), (1, 1), (-1, 1), (1, 2), (-3, 2), (10**40, 7), (5, 6)):
            self.assertIs(is_fraction(thing), True)
        self.assertIs(is_fraction(thing=(2, 3)), True)

    def test_what_is_none(self):
        for thing in (
            (0, 2),
            (2, 2),
            (2, 4),
            (-6, 4),
            (1, 0),
            (0, 0),
            (1, -1),
            (0, -1),
            (True, 1),
            (1, True),
            (False, 1),
            (1.0, 1),
            (1, 1.0),
            (1,),
            (1, 1, 1),
            [1, 1],
            ("1", 1),
            (None, 1),
            (1, None),
            "11",
        ):
            self.assertIs(is_fraction(thing), False, repr(thing))

    def test_of_anything(self):
        for thing in things():
            self.assertIs(is_fraction(thing), type(thing) is tuple and len(thing) == 2 and type(thing[1]) is int)

    def test_made(self):
        self.assertEqual(fraction(6, 4), (3, 2))
        self.assertEqual(fraction(6, -4), (-3, 2))
        self.assertEqual(fraction(-6, -4), (3, 2))
        self.assertEqual(fraction(0, -7), (0, 1))
        self.assertEqual(fraction(5), (5, 1))
        self.assertEqual(fraction(top=4, bottom=6), (2, 3))
        self.assertEqual(fraction(4, bottom=2), (2, 1))
        for top, bottom in itertools.product(range(-9, 10), range(-9, 10)):
            if bottom:
                made = fraction(top, bottom)
                self.assertIs(is_fraction(made), True)
                self.assertEqual(as_known(made), Fraction(top, bottom))

    def test_made_of_what_can_not_be(self):
        for thing in things():
            if type(thing) is not int:
                for call in (lambda: fraction(thing), lambda: fraction(thing, 2), lambda: fraction(1, thing)):
                    with self.assertRaises(OutOfPlace):
                        call()
        for top, bottom in ((1, 0), (0, 0), (True, 1), (1, True), (1, False), (False, 1)):
            with self.assertRaises(OutOfPlace):
                fraction(top, bottom)


class Reckoned(unittest.TestCase):
    def test_all_against_what_is_known(self):
        for one, other in itertools.product(SOME, SOME):
            known = as_known(one), as_known(other)
            for told, due in (
                (sum_of(one, other), known[0] + known[1]),
                (difference(one, other), known[0] - known[1]),
                (product(one, other), known[0] * known[1]),
            ):
                self.assertIs(is_fraction(told), True)
                self.assertEqual(as_known(told), due)
            if other != NOUGHT:
                told = quotient(one, other)
                self.assertIs(is_fraction(told), True)
                self.assertEqual(as_known(told), known[0] / known[1])

    def test_by_names(self):
        self.assertEqual(sum_of(one=(1, 2), other=(1, 3)), (5, 6))
        self.assertEqual(difference(one=(1, 2), other=(1, 3)), (1, 6))
        self.assertEqual(product(one=(1, 2), other=(2, 3)), (1, 3))
        self.assertEqual(quotient(one=(1, 2), other=(-1, 3)), (-3, 2))
        self.assertEqual(number_text(one=(1, 2)), "1/2")

    def test_nothing_is_divided_by_nought(self):
        for one in (ONE, NOUGHT, (-2, 3)):
            with self.assertRaises(OutOfPlace):
                quotient(one, NOUGHT)

    def test_texts(self):
        for one, text in (((0, 1), "0"), ((7, 1), "7"), ((-7, 1), "-7"), ((-3, 2), "-3/2"), ((10, 11), "10/11")):
            self.assertEqual(number_text(one), text)
        for one, text in (((1, 1), "1"), ((-1, 1), "-1"), ((1, 2), "1/2"), ((-1, 2), "-1/2")):
            self.assertEqual(number_text(one), text)

    def test_texts_of_any_length(self):
        self.assertEqual(number_text((10**5000, 1)), "1" + "0" * 5000)
        self.assertEqual(number_text((-(10**5000 - 1), 10**4500)), "-" + "9" * 5000 + "/1" + "0" * 4500)
        for figures in range(55, 130):
            self.assertEqual(number_text((10**figures + 7, 1)), str(10**figures + 7))
            self.assertEqual(number_text((10**figures - 1, 1)), "9" * figures)


if __name__ == "__main__":
    unittest.main()
