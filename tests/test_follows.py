"""rankedchains.follows: what follows from EQUATIONS [63] to [65]."""

import random
import unittest

from rankedchains.cases import cases
from rankedchains.conditions import is_closed
from rankedchains.errors import BadChain, BadPolynomial, BadRanking, TooGreat
from rankedchains.follows import are_same, breaking, implied, word_of
from rankedchains.normal import goes_out, normal
from rankedchains.polynomials import derived, less, of_derivative, plus, raised, scaled, times
from rankedchains.series import need_data, number_of
from rankedchains.spans import reduced_rows
from systems import (
    ALL,
    HEAT,
    NAMES,
    ONE_AXIS,
    OPEN,
    SWING,
    UV,
    YX_NAMES,
    high,
    is_in_by_hand,
    normal_by_hand,
    polynomials_of,
    some_polynomial,
    some_products,
    some_systems,
    sum_of_terms,
)
from things import (
    NO_CHAINS_OF_UV,
    NO_EQUATIONS,
    NO_POLYNOMIALS,
    NO_RANKINGS,
    WITH_NONE,
    Odd,
    Yes,
    chain,
    d,
    p,
    refused_in_order,
)

UVW = ("total", ("u", "v", "w"), ("x", "y"))


def word_by_hand(ranking, leaves, one):
    """The words of [63], leaf by leaf."""
    closed = [pairs for word, _, pairs, _ in leaves if word == "closed"]
    if any(normal_by_hand(ranking, pairs, one) for pairs in closed):
        return "breaks"
    for word, _, pairs, pending in leaves:
        if word == "knot" and not is_in_by_hand(ranking, pending, normal_by_hand(ranking, pairs, one)):
            return "open"
    return "holds"


class Words(unittest.TestCase):
    def test_by_hand(self):
        for ranking, texts, text, due in (
            (UV, (), "0", "holds"),
            (UV, (), "u", "breaks"),
            (UV, (), "7", "breaks"),
            (UV, ("u.x - v",), "u.xy - v.y", "holds"),
            (UV, ("u.x - v",), "u.y - v", "breaks"),
            (UV, ("u*v",), "u*v", "holds"),
            (UV, ("u*v",), "u.x*v + u*v.x", "holds"),
            (UV, ("u*v",), "u.x*v", "holds"),
            (UV, ("u*v",), "u", "breaks"),
            (UV, ("u^2",), "u", "holds"),
            (UV, ("u*u.x",), "u.x", "holds"),
            (UV, ("u.x^2 - u",), "u.x^2 - u", "holds"),
            (UV, ("u.x^2 - u",), "3*u.x^2 - 3*u", "holds"),
            (UV, ("u.x^2 - u",), "u", "open"),
            (UV, ("u.x^2 - u",), "u.x^3 - u*u.x", "open"),
            (UV, ("u.x^2 - u",), "0", "holds"),
            (UV, ("u.x^2 - u", "v"), "v.x + u.x^2 - u", "holds"),
            (UV, ("1",), "u", "holds"),
            (UV, ("u.x - 1", "u.y - u"), "v^2 + 1", "holds"),
            # A knot in the one LEAF, a CHAIN in the other one.
            (UV, ("v*u.x^2 - v*u",), "v*u.x^2 - v*u", "holds"),
            (UV, ("v*u.x^2 - v*u",), "v^2*u.x^2 - v^2*u", "open"),
            (UV, ("v*u.x^2 - v*u",), "v", "open"),
            (UV, ("v*u.x^2 - v*u",), "u", "breaks"),
            (UVW, ("v*u.x^2 - v*u", "w"), "w.x", "holds"),
        ):
            told = word_of(ranking, polynomials_of(*texts), p(text))
            self.assertEqual(told, due, (texts, text))
        self.assertEqual(word_of(ranking=UV, equations=(), polynomial=p("u")), "breaks")

    def test_knots_behind_what_breaks(self):
        equations = polynomials_of("u*v.x^2 - u*v")
        self.assertEqual([one[0] for one in cases(UV, equations)], ["closed", "knot"])
        self.assertEqual(word_of(UV, equations, p("u")), "open")
        self.assertEqual(word_of(UV, equations, p("v.x^2 - v")), "breaks")
        self.assertEqual(word_of(UV, equations, p("u*v.x^2 - u*v")), "holds")
        self.assertEqual(word_of(UV, equations, p("u^2*v.x^2 - u^2*v")), "open")
        self.assertEqual(word_of(UV, equations, ()), "holds")

    def test_against_the_document(self):
        chance = random.Random(631)
        words = []
        for ranking, equations, leaves in some_products(632, 120):
            some = [some_polynomial(chance, ranking, 1), *equations]
            some.append(times(some[0], equations[0]))
            some.append(plus(equations[-1], derived(equations[0], "x")))
            for one in some:
                told = word_of(ranking, equations, one)
                self.assertEqual(told, word_by_hand(ranking, leaves, one))
                words.append(told)
        for word in ("holds", "breaks", "open"):
            self.assertGreater(words.count(word), 20)

    def test_what_holds_holds_in_sums_and_products(self):
        chance = random.Random(633)
        found = 0
        for ranking, equations, leaves in some_products(634, 100):
            if any(one[0] == "knot" for one in leaves):
                continue
            one, other = chance.choice(equations), chance.choice(equations)
            for some in (one, plus(one, other), times(one, some_polynomial(chance, ranking, 1)), derived(other, "x")):
                found += 1
                self.assertEqual(word_of(ranking, equations, some), "holds")
            if "y" in ranking[2]:
                self.assertEqual(word_of(ranking, equations, derived(one, "y")), "holds")
        self.assertGreater(found, 200)

    def test_more_never_breaks_what_holds(self):
        chance = random.Random(635)
        for ranking, equations, _ in some_products(636, 60):
            one = chance.choice([equations[0], some_polynomial(chance, ranking, 1), derived(equations[0], "x")])
            more = (*equations, some_polynomial(chance, ranking, 1, 2, 1))
            try:
                words = [word_of(ranking, some, one) for some in (equations, more)]
            except TooGreat:
                continue
            self.assertNotEqual(words, ["holds", "breaks"])

    def test_too_great(self):
        for equations, one in (
            (polynomials_of("u^9"), p("0")),
            ((), raised(p("u"), 17)),
            ((), sum_of_terms("u", 121)),
            (polynomials_of("v.x^2 - v"), raised(p("u"), 17)),
            (polynomials_of("u*v"), raised(p("w"), 17)),
            (polynomials_of("u.x - u"), high("u", 25)),
        ):
            with self.assertRaises(TooGreat):
                word_of(UVW, equations, one)
        self.assertEqual(word_of(UVW, polynomials_of("1"), raised(p("u"), 17)), "holds")
        self.assertEqual(word_of(UVW, polynomials_of("u"), raised(p("u"), 17)), "holds")

    def test_refused_in_order(self):
        bad = ((BadRanking, NO_RANKINGS), (BadPolynomial, NO_EQUATIONS + WITH_NONE), (BadPolynomial, NO_POLYNOMIALS))
        refused_in_order(self, word_of, (UV, polynomials_of("u"), p("v")), bad)
        for equations, one, number in (
            (polynomials_of("u", "w"), None, 1),
            ([], None, None),
            (polynomials_of("u^9"), p("w"), None),
        ):
            with self.assertRaises(BadPolynomial) as caught:
                word_of(UV, equations, one)
            self.assertEqual(caught.exception.number, number)


class Implied(unittest.TestCase):
    def test_by_hand(self):
        for texts, others, due in (
            ((), (), ("holds", None)),
            (("u",), (), ("holds", None)),
            (("u",), ("u.x", "u*v", "0"), ("holds", None)),
            (("u.x",), ("u.xx", "u.y", "v"), ("breaks", 1)),
            (("u.x^2 - u",), ("u.x^2 - u", "u", "v"), ("open", 1)),
            (("u*v.x^2 - u*v",), ("0", "u", "v.x"), ("breaks", 2)),
            (("1",), ("u", "v"), ("holds", None)),
            (("u*v",), ("u", "v"), ("breaks", 0)),
        ):
            told = implied(UV, polynomials_of(*texts), polynomials_of(*others))
            self.assertEqual(told, due, (texts, others))
            self.assertIs(type(told), tuple)
        self.assertEqual(implied(ranking=UV, equations=(), others=polynomials_of("0", "u")), ("breaks", 1))

    def test_against_word_of(self):
        chance = random.Random(651)
        found = []
        for ranking, equations, _ in some_products(652, 60):
            others = tuple(chance.choice([*equations, some_polynomial(chance, ranking, 1)]) for _ in range(3))
            words = [word_of(ranking, equations, one) for one in others]
            due = next(((word, words.index(word)) for word in ("breaks", "open") if word in words), ("holds", None))
            self.assertEqual(implied(ranking, equations, others), due)
            found.append(due[0])
        for word in ("holds", "breaks", "open"):
            self.assertIn(word, found)

    def test_too_great_and_refused(self):
        with self.assertRaises(TooGreat):
            implied(UV, polynomials_of("u^9"), ())
        with self.assertRaises(TooGreat):
            implied(UV, (), (p("u"), raised(p("u"), 17)))
        bad = (BadPolynomial, NO_EQUATIONS + WITH_NONE)
        for call in (implied, are_same):
            refused_in_order(self, call, (UV, polynomials_of("u"), polynomials_of("v")), ((BadRanking, NO_RANKINGS), bad, bad))
            with self.assertRaises(BadPolynomial) as caught:
                call(UV, polynomials_of("u^9"), polynomials_of("u", "v", "w"))
            self.assertEqual(caught.exception.number, 2)


class Same(unittest.TestCase):
    def test_by_hand(self):
        for texts, others, due in (
            ((), (), True),
            ((), ("0",), True),
            (("u",), ("3*u", "u.x"), True),
            (("u",), ("u^2",), True),
            (("u",), ("u.x",), False),
            (("u.x",), ("u",), False),
            (("u*v",), ("v*u.x", "u*v.x", "u*v"), True),
            (("u.x^2 - u",), ("2*u.x^2 - 2*u",), True),
            (("1",), ("u.x - 1", "u.y - u"), True),
            (("u.x - v", "u.y"), ("v.y", "u.y", "u.x - v"), True),
        ):
            self.assertIs(are_same(UV, polynomials_of(*texts), polynomials_of(*others)), due, (texts, others))
            self.assertIs(are_same(UV, polynomials_of(*others), polynomials_of(*texts)), due, (texts, others))
        self.assertIs(are_same(ranking=UV, equations=(), others=()), True)

    def test_both_ways(self):
        chance = random.Random(653)
        for ranking, equations, leaves in some_products(654, 50):
            knots = any(one[0] == "knot" for one in leaves)
            self.assertIs(are_same(ranking, equations, equations), implied(ranking, equations, equations)[0] == "holds")
            some = reduced_rows(ranking, equations)
            if not knots:
                self.assertIs(are_same(ranking, equations, some), True)
            other = (*equations, some_polynomial(chance, ranking, 1, 2, 1))
            try:
                both = [implied(ranking, equations, other)[0], implied(ranking, other, equations)[0]]
            except TooGreat:
                continue
            self.assertIs(are_same(ranking, equations, other), both == ["holds", "holds"])


class Breaking(unittest.TestCase):
    def looked_at(self, ranking, pairs, one):
        told = breaking(ranking, pairs, one)
        if goes_out(ranking, pairs, one):
            self.assertIsNone(told)
            return 0
        self.assertIs(type(told), tuple)
        self.assertIsNone(need_data(ranking, pairs, told))
        self.assertNotEqual(number_of(ranking, pairs, one, data=told), (0, 1))
        return 1

    def test_by_hand(self):
        self.assertIsNone(breaking(*HEAT, p("u.xx - u.y")))
        self.assertIsNone(breaking(*HEAT, ()))
        self.assertEqual(breaking(*HEAT, p("1")), ())
        self.assertEqual(breaking(UV, (), p("u + 1")), ())
        for text in ("u", "u.xx", "u*v.x*u.yy", "u^2 - u", "u.xx^2 - u.y^2 + u*v", "u^2 - 3*u + 2 + v"):
            self.assertEqual(self.looked_at(*HEAT, p(text)), 1)
        ranking, pairs = HEAT
        self.assertIsNone(breaking(ranking=ranking, chain=pairs, polynomial=p("u.xx - u.y")))

    def test_that_are_nought_by_many_small_numbers(self):
        one = p("u")
        for number in range(-3, 9):
            one = times(one, less(p("u"), p(str(number) if number >= 0 else f"-{-number}")))
        self.assertEqual(self.looked_at(UV, (), one), 1)
        both = times(less(p("u"), p("v")), less(p("u"), scaled(p("v"), (2, 1))))
        self.assertEqual(self.looked_at(UV, (), times(both, p("u*v*u.x*v.x - u*v"))), 1)

    def test_by_chance(self):
        chance = random.Random(641)
        found = 0
        for ranking, _, told in some_systems(642, 80):
            if told[0] == "closed":
                for _ in range(4):
                    one = some_polynomial(chance, ranking, 2)
                    try:
                        normal(ranking, told[1], one)
                    except TooGreat:
                        continue
                    found += self.looked_at(ranking, told[1], one)
        self.assertGreater(found, 80)

    def test_refused_in_order(self):
        no_chains = NO_CHAINS_OF_UV + [OPEN[1]]
        bad = ((BadRanking, NO_RANKINGS), (BadChain, no_chains), (BadPolynomial, NO_POLYNOMIALS))
        refused_in_order(self, breaking, (*HEAT, p("u")), bad)
        with self.assertRaises(BadChain) as caught:
            breaking(*OPEN, Odd())
        self.assertEqual(caught.exception.place, ("open", 0, 1))
        for ranking, pairs in ALL:
            if not is_closed(ranking, pairs):
                with self.assertRaises(BadChain):
                    breaking(ranking, pairs, p("u"))

    def test_too_great(self):
        great = chain("u.y = u^9", "u.x = u^8*v")
        with self.assertRaises(TooGreat):
            breaking(UV, great, p("u"))
        for thing in (Odd(), Yes(), p("w")):
            with self.assertRaises(BadPolynomial):
                breaking(UV, great, thing)
        for one in (raised(p("v"), 17), sum_of_terms("v", 121)):
            with self.assertRaises(TooGreat):
                breaking(*HEAT, one)
        with self.assertRaises(TooGreat):
            breaking(*SWING, high("u", 25))
        self.assertEqual(breaking(NAMES, ((d("v"), sum_of_terms("w", 120)),), p("v*0")), None)
        self.assertEqual(self.looked_at(YX_NAMES, (), of_derivative(("u", 3, 30))), 1)
        self.assertEqual(self.looked_at(ONE_AXIS, (), plus(p("u^9*v^7"), p("u"))), 1)


if __name__ == "__main__":
    unittest.main()
