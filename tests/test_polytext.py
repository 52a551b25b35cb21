"""rankedchains.polytext: promises [5] and [6], POLYNOMIALS as texts and read."""

import random
import unittest

from rankedchains.errors import BadRow
from rankedchains.numbers import fraction
from rankedchains.polynomials import constant, need_polynomial, of_derivative, plus, scaled, times
from rankedchains.polytext import derivative_text, poly_text, read_poly, term_misfit
from things import things

U, V, W = ("u", 0, 0), ("v", 0, 0), ("w", 0, 0)
ONE = ((), (1, 1))


class Told(unittest.TestCase):
    def test_derivatives(self):
        for derivative, text in (
            (U, "u"),
            (("u", 1, 0), "u.x"),
            (("u", 0, 1), "u.y"),
            (("abc", 2, 3), "abc.xxyyy"),
            (("x", 1, 1), "x.xy"),
            (("u", 12, 0), "u." + "x" * 12),
        ):
            self.assertEqual(derivative_text(derivative), text)
        self.assertEqual(derivative_text(derivative=U), "u")

    def test_the_documents_example(self):
        one = (
            ((), (-1, 2)),
            (((U, 2), (("v", 1, 1), 1)), (3, 1)),
            (((("w", 1, 0), 1),), (-1, 1)),
        )
        self.assertEqual(poly_text(one), "-1/2 + 3*u^2*v.xy - w.x")
        self.assertEqual(poly_text(one=one), "-1/2 + 3*u^2*v.xy - w.x")
        self.assertEqual(read_poly("-1/2 + 3*u^2*v.xy - w.x"), one)

    def test_nought_and_numbers(self):
        for number, text in (((0, 1), "0"), ((1, 1), "1"), ((-1, 1), "-1"), ((7, 2), "7/2"), ((-7, 2), "-7/2")):
            self.assertEqual(poly_text(constant(number)), text)

    def test_signs_powers_fractions(self):
        u, v = of_derivative(U), of_derivative(V)
        for one, text in (
            (u, "u"),
            (scaled(u, (-1, 1)), "-u"),
            (scaled(u, (2, 1)), "2*u"),
            (scaled(u, (-2, 3)), "-2/3*u"),
            (scaled(u, (1, 2)), "1/2*u"),
            (of_derivative(U, power=12), "u^12"),
            (scaled(of_derivative(("u", 1, 2), power=2), (-1, 1)), "-u.xyy^2"),
            (plus(u, scaled(v, (-1, 1))), "u - v"),
            (plus(scaled(u, (-1, 1)), v), "-u + v"),
            (plus(constant((-1, 1)), scaled(u, (-1, 1))), "-1 - u"),
            (plus(constant((1, 1)), times(u, v)), "1 + u*v"),
            (scaled(times(u, v), (1234567, 891)), "1234567/891*u*v"),
        ):
            self.assertEqual(poly_text(one), text)

    def test_monomials_in_their_order(self):
        self.assertEqual(poly_text(read_poly("w + v + u^2 + u*v + u + 1 + u.x")), "1 + u + u*v + u^2 + u.x + v + w")

    def test_numbers_of_any_length(self):
        self.assertEqual(poly_text(constant((-(10**5000), 1))), "-1" + "0" * 5000)


class Read(unittest.TestCase):
    def test_terms_and_factors_in_any_order(self):
        due = (ONE, (((U, 1), (V, 1)), (2, 1)), (((W, 1),), (-1, 1)))
        for text in (
            "1 + 2*u*v - w",
            "2*u*v + 1 - w",
            "-w + v*2*u + 1",
            "v*u*2 - w + 1",
            "1*1 + v*u*2*1 - w*1",
            "-w + 4/2*v*u + 3/3",
            "-1*w + 1/2*v*4*u + 01/1",
        ):
            self.assertEqual(read_poly(text), due)
        self.assertEqual(read_poly(text="u"), ((((U, 1),), (1, 1)),))

    def test_figures(self):
        for text, number in (
            ("7", (7, 1)),
            ("007", (7, 1)),
            ("000", (0, 1)),
            ("999", (999, 1)),
            ("-999", (-999, 1)),
            ("6/4", (3, 2)),
            ("006/04", (3, 2)),
            ("1/99", (1, 99)),
            ("0/7", (0, 1)),
            ("-0", (0, 1)),
            ("2*3*1/6", (1, 1)),
            ("999*999*999", (999**3, 1)),
        ):
            self.assertEqual(read_poly(text), constant(number), text)

    def test_letters_of_both_axes_in_any_order(self):
        for text in ("u.xxy", "u.xyx", "u.yxx"):
            self.assertEqual(read_poly(text), of_derivative(("u", 2, 1)))
        self.assertEqual(read_poly("u.xxxxxx"), of_derivative(("u", 6, 0)))
        self.assertEqual(read_poly("u.yxyxyx"), of_derivative(("u", 3, 3)))
        self.assertEqual(read_poly("x.y"), of_derivative(("x", 0, 1)))

    def test_powers(self):
        self.assertEqual(read_poly("u^1"), of_derivative(U))
        self.assertEqual(read_poly("u^9"), of_derivative(U, power=9))
        self.assertEqual(read_poly("u.xy^3"), of_derivative(("u", 1, 1), power=3))
        self.assertEqual(read_poly("u^9*u^9*u*u*u*u*u*u^9"), of_derivative(U, power=32))

    def test_like_ones_together(self):
        self.assertEqual(read_poly("u + u"), scaled(of_derivative(U), (2, 1)))
        self.assertEqual(read_poly("u*v + v*u - 1/2*u*v"), scaled(read_poly("u*v"), (3, 2)))
        self.assertEqual(read_poly("u.xy*u.yx"), of_derivative(("u", 1, 1), power=2))
        self.assertEqual(read_poly("1/2 + 1/3"), constant((5, 6)))

    def test_what_comes_to_nought(self):
        for text in ("0", "u - u", "0*u", "-u + u", "u*v - v*u", "1/2 - 2/4", "0*u + 0*v"):
            self.assertEqual(read_poly(text), ())

    def test_what_is_told_is_read(self):
        chance = random.Random(5)
        for _ in range(150):
            total = ()
            bottom = chance.randint(1, 99)
            for _ in range(chance.randint(0, 6)):
                part = constant(fraction(chance.randint(-99, 99), bottom))
                for _ in range(chance.randint(0, 4)):
                    derivative = (chance.choice("uvw"), chance.randint(0, 3), chance.randint(0, 3))
                    part = times(part, of_derivative(derivative, power=chance.randint(1, 2)))
                total = plus(total, part)
            need_polynomial(total)
            self.assertEqual(read_poly(poly_text(total)), total)

    def test_a_long_text(self):
        text = " + ".join(["u.x*v^2"] * 2000)
        self.assertEqual(read_poly(text), scaled(read_poly("u.x*v^2"), (2000, 1)))


class Refused(unittest.TestCase):
    def refused(self, text, row, word):
        with self.assertRaises(BadRow) as caught:
            read_poly(text)
        self.assertEqual((caught.exception.row, caught.exception.word), (row, word), repr(text))

    def test_what_is_no_text(self):
        for thing in things():
            if type(thing) is not str:
                self.refused(thing, 0, 0)
        self.refused(["u"], 0, 0)

    def test_blanks(self):
        for text in ("", " ", " u", "u ", "u  + v", "u +  v", "u + v ", " u + v", "U  +", "  ", " U"):
            self.refused(text, 1, 0)

    def test_a_term_that_lacks(self):
        self.refused("u +", 1, 3)
        self.refused("u + v -", 1, 5)
        self.refused("0 -", 1, 3)

    def test_words_that_can_not_stand(self):
        for text, word in (
            ("+ u", 1),
            ("- u", 1),
            ("-", 1),
            ("+", 1),
            ("+u", 1),
            ("--u", 1),
            ("u v", 2),
            ("u * v", 2),
            ("u + + v", 3),
            ("u + -v", 3),
            ("u - -1", 3),
            ("u -v", 2),
            ("u + v w", 4),
            ("u + V", 3),
            ("u + v - 1000 + +", 5),
            ("u +v U", 2),
            ("\n", 1),
            ("u\n", 1),
            ("u +\n v", 2),
            ("u\n+ v", 1),
        ):
            self.refused(text, 1, word)

    def test_the_first_word_is_told(self):
        self.refused("U + V +", 1, 1)
        self.refused("u + V +", 1, 3)
        self.refused("u / v +", 1, 2)


class Misfits(unittest.TestCase):
    FITS = (
        "u",
        "0",
        "000",
        "1/2",
        "1/02",
        "u.x",
        "u.xyxyxy",
        "u^2",
        "u.y^9",
        "abcdefgh.x^1",
        "u*v",
        "1*u*2/3*v.x^2",
        "1*1*1*1*1*1*1*1",
        "u*u*u*u*u*u*u*u",
    )
    MISFITS = (
        "",
        "*",
        "u*",
        "*u",
        "u**v",
        "U",
        "u1",
        "2u",
        "u.",
        "u.z",
        "u.X",
        "u.xxxxxxx",
        "u.x.y",
        "u^",
        "u^0",
        "u^10",
        "u^x",
        "u^-1",
        "u^2.x",
        "u^2^2",
        "u.^2",
        ".x",
        "^2",
        "abcdefghi",
        "1000",
        "1/",
        "/2",
        "1/0",
        "1/00",
        "1/100",
        "1/2/3",
        "1/-2",
        "1^2",
        "1.x",
        "+u",
        "+",
        "-",
        "--u",
        "u-v",
        "u v",
        " u",
        "u ",
        "u\n",
        "1\n",
        "u^2\n",
        "u.x\n",
        "1*1*1*1*1*1*1*1*1",
        "u*-v",
        "\u0661",
        "u^\u00b2",
        "1/\u0662",
        "\u00e9",
    )

    def test_terms(self):
        for word in self.FITS:
            self.assertIs(term_misfit(word), False, word)
            self.assertIs(term_misfit(word, first=True), False, word)
            self.assertIs(term_misfit("-" + word), True, word)
            self.assertIs(term_misfit("-" + word, first=True), False, word)
            self.assertIs(term_misfit("--" + word, first=True), True, word)

    def test_misfits(self):
        for word in self.MISFITS:
            self.assertIs(term_misfit(word), True, repr(word))
            self.assertIs(term_misfit(word, first=True), True, repr(word))
            if " " not in word:
                with self.assertRaises(BadRow) as caught:
                    read_poly(f"u - {word} + v" if word else "u - ")
                self.assertEqual(caught.exception.word, 3 if word else 0, repr(word))

    def test_by_names(self):
        self.assertIs(term_misfit(word="-u", first=False), True)
        self.assertIs(term_misfit(word="-u", first=True), False)
        with self.assertRaises(TypeError):
            term_misfit("-u", True)


if __name__ == "__main__":
    unittest.main()
