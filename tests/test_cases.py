"""rankedchains.cases: FACTORS, CASES, what lies WITHIN, KEPT LEAVES [60] to [62]."""

import random
import unittest

from rankedchains.cases import MOST_LEAVES, cases, factors, is_within, kept_leaves
from rankedchains.chains import equation_of
from rankedchains.closing import closing
from rankedchains.conditions import is_closed
from rankedchains.errors import BadChain, BadPolynomial, BadRanking, TooGreat
from rankedchains.normal import goes_out
from rankedchains.polynomials import constant, less, of_derivative, plus, raised, scaled, times
from rankedchains.series import jet_of
from rankedchains.spans import is_in_span
from rankedchains.taylor import first_fault
from systems import (
    HEAT,
    NAMES,
    ONE_AXIS,
    OPEN,
    UV,
    YX,
    YX_NAMES,
    cases_by_hand,
    factors_by_hand,
    high,
    polynomials_of,
    some_data,
    some_polynomial,
    some_products,
    some_systems,
    sum_of_terms,
)
from things import (
    NO_CHAINS_OF_UV,
    NO_EQUATIONS,
    NO_POLYNOMIALS,
    NO_RANKINGS,
    WITH_NONE,
    Odd,
    Yes,
    chain,
    p,
    refused_in_order,
)

UVW = ("total", ("u", "v", "w"), ("x", "y"))


def leaf(word, assumed=(), pairs=(), pending=()):
    return (word, polynomials_of(*assumed), chain(*pairs), polynomials_of(*pending))


class Factors(unittest.TestCase):
    def test_by_hand(self):
        for ranking, text, due in (
            (UV, "0", ()),
            (UV, "1", ()),
            (UV, "-7/3", ()),
            (UV, "u + v", ()),
            (UV, "u*v + 1", ()),
            (UV, "u*v + u.x*v.x", ()),
            (UV, "u", ("u",)),
            (UV, "-3*u.x^5", ("u.x",)),
            (UV, "u*v", ("v", "u")),
            (YX_NAMES, "u*v", ("u", "v")),
            (UV, "u.x*u.y*v^2", ("v", "u.y", "u.x")),
            (YX, "u.x*u.y*v^2", ("v", "u.x", "u.y")),
            (UV, "u^2 + u", ("u", "u + 1")),
            (UV, "2*u^3*v - 3*u^2*v^2", ("v", "u", "u - 3/2*v")),
            (NAMES, "2*u^3*v - 3*u^2*v^2", ("v", "u", "u - 3/2*v")),
            (YX_NAMES, "2*u^3*v - 3*u^2*v^2", ("u", "v", "v - 2/3*u")),
            (UV, "-u.x*v + u.x", ("u.x", "v - 1")),
            (UV, "u^2*v + u^3*v.x", ("u", "u*v.x + v")),
            (UV, "4*u*u.x^2 + 2*u*v", ("u", "u.x^2 + 1/2*v")),
        ):
            told = factors(ranking, p(text))
            self.assertEqual(told, polynomials_of(*due), text)
            self.assertIs(type(told), tuple)
        self.assertEqual(factors(ranking=UV, polynomial=p("u*v")), polynomials_of("v", "u"))

    def test_against_the_document(self):
        chance = random.Random(601)
        many = 0
        for _ in range(300):
            ranking = chance.choice((UV, YX, NAMES, YX_NAMES, ONE_AXIS))
            one = some_polynomial(chance, ranking, 1, 3, 2)
            for _ in range(chance.randint(0, 2)):
                one = times(one, some_polynomial(chance, ranking, 1, 1, 2))
            told = factors(ranking, one)
            self.assertEqual(told, factors_by_hand(ranking, one)[0])
            many += len(told) > 1
        self.assertGreater(many, 40)

    def test_bounds_are_none_here(self):
        many = sum_of_terms("u", 150)
        self.assertEqual(factors(UV, times(many, raised(p("v"), 20)))[0], p("v"))
        self.assertEqual(len(factors(UV, times(many, raised(p("v"), 20)))[1]), 150)

    def test_refused(self):
        refused_in_order(self, factors, (UV, p("u")), ((BadRanking, NO_RANKINGS), (BadPolynomial, NO_POLYNOMIALS)))
        with self.assertRaises(BadPolynomial) as caught:
            factors(UV, p("u*w"))
        self.assertIsNone(caught.exception.number)


class Leaves(unittest.TestCase):
    def test_by_hand(self):
        for ranking, texts, due in (
            (UV, (), (leaf("closed"),)),
            (UV, ("u.x",), (leaf("closed", (), ("u.x = 0",)),)),
            (UV, ("1",), (leaf("contradiction"),)),
            (UV, ("u.x^2 - u",), (leaf("knot", (), (), ("u.x^2 - u",)),)),
            (UV, ("u*v",), (leaf("closed", ("v",), ("v = 0",)), leaf("closed", ("u",), ("u = 0",)))),
            (UV, ("u^2",), (leaf("closed", ("u",), ("u = 0",)),)),
            (
                UV,
                ("u.x*v - u.x",),
                (leaf("closed", ("u.x",), ("u.x = 0",)), leaf("closed", ("v - 1",), ("v = 1",))),
            ),
            (
                UV,
                ("u^2 - u", "u.x - 1"),
                (leaf("contradiction", ("u",)), leaf("contradiction", ("u - 1",))),
            ),
            (
                NAMES,
                ("u - v", "u*w - v*u"),
                (leaf("closed", ("v",), ("v = 0", "u = 0")), leaf("closed", ("v - w",), ("v = w", "u = w"))),
            ),
            (
                UV,
                ("u*v.x", "u.x - 1"),
                (leaf("contradiction", ("u",)), leaf("closed", ("v.x",), ("v.x = 0", "u.x = 1"))),
            ),
        ):
            told = cases(ranking, polynomials_of(*texts))
            self.assertIs(type(told), tuple)
            self.assertEqual(told, due, texts)
        self.assertEqual(cases(ranking=UV, equations=polynomials_of("u")), (leaf("closed", (), ("u = 0",)),))

    def test_splits_within_splits(self):
        told = cases(UVW, polynomials_of("u*v", "v*w", "u*w"))
        due = [("closed", polynomials_of(*assumed)) for assumed in (("w", "v"), ("w", "u"), ("v", "w"), ("v", "u"))]
        self.assertEqual([one[:2] for one in told], due)
        self.assertEqual(told[1][2], chain("w = 0", "u = 0"))
        self.assertEqual(told[3][2], chain("v = 0", "u = 0"))

    def test_the_first_row_that_splits(self):
        # PENDING falls from u.x*u.y on; the least HEAD that has FACTORS splits, v^2 - 1 has none.
        equations = polynomials_of("u.x*u.y", "v*u.y", "v^2 - 1")
        self.assertEqual(closing(UV, equations)[2], polynomials_of("u.x*u.y", "u.y*v", "v^2 - 1"))
        told = cases(UV, equations)
        self.assertEqual([one[1][0] for one in told], [p("v"), p("u.y")])
        self.assertEqual([one[0] for one in told], ["contradiction", "knot"])

    def test_a_rest_in_the_span_does_not_split(self):
        equations = polynomials_of("u*v.x^2 - u*v", "v.x^2 - v")
        self.assertEqual(factors(UV, closing(UV, equations)[2][0])[1], p("v.x^2 - v"))
        self.assertEqual(cases(UV, equations), (leaf("knot", (), (), equations and ("u*v.x^2 - u*v", "v.x^2 - v")),))
        # Of several rows the one behind it splits.
        more = equations + polynomials_of("u.x*u.y^2 + u.x")
        self.assertEqual([one[1] for one in cases(UV, more)], [(p("u.x"),), (p("u.y^2 + 1"),)])
        # A multiple of it is IN the SPAN, too.
        self.assertEqual(len(cases(UV, polynomials_of("u*v.x^2 - u*v", "2*v.x^2 - 2*v"))), 1)
        # What has no REST splits, whatever stands beside it.
        told = cases(UV, polynomials_of("u^2", "v.x^2 - v"))
        self.assertEqual([one[:2] for one in told], [("knot", (p("u"),))])

    def test_against_the_document(self):
        words, many = [], 0
        for ranking, equations, told in some_products(611, 300):
            self.assertEqual(list(told), cases_by_hand(ranking, equations))
            words += [one[0] for one in told]
            many += len(told) > 2
            for word, assumed, pairs, pending in told:
                again = closing(ranking, (*equations, *assumed)) if len(equations + assumed) <= 12 else None
                if again is not None:
                    self.assertEqual(again, {"closed": (word, pairs), "contradiction": (word,), "knot": (word, pairs, pending)}[word])
        for word in ("closed", "knot", "contradiction"):
            self.assertGreater(words.count(word), 5)
        self.assertGreater(many, 20)

    def test_where_nothing_is_split_it_is_what_closing_tells(self):
        for ranking, equations, told in some_systems(612, 60):
            if told[0] != "knot":
                due = (told[0], (), told[1] if len(told) > 1 else (), ())
                self.assertEqual(cases(ranking, equations), (due,))

    def test_they_hang_on_the_span_alone(self):
        chance = random.Random(613)
        for ranking, equations, told in some_products(614, 40):
            some = [scaled(one, chance.choice(((2, 1), (-1, 3)))) for one in equations]
            chance.shuffle(some)
            self.assertEqual(cases(ranking, tuple(some)), told)
            self.assertEqual(cases(ranking, (plus(some[0], some[-1]), *some)), told)


class Bounds(unittest.TestCase):
    def product_of(self, name, many):
        one = p("1")
        for order in range(many):
            one = times(one, of_derivative((name, order, 0)))
        return one

    def test_twelve_leaves(self):
        self.assertEqual(MOST_LEAVES, 12)
        ranking = ("total", ("u", "v", "w"), ("x", "y"))
        # Eight FACTORS of one product, and twelve of two, with 2 * 6 and 3 * 4 of them.
        self.assertEqual(len(cases(ranking, (self.product_of("u", 8),))), 8)
        for one, other in ((2, 6), (3, 4), (1, 8)):
            told = cases(ranking, (self.product_of("u", one), self.product_of("v", other)))
            self.assertEqual(len(told), one * other)
        for one, other in ((2, 7), (3, 5), (8, 8)):
            with self.assertRaises(TooGreat):
                cases(ranking, (self.product_of("u", one), self.product_of("v", other)))

    def test_just_one_more(self):
        ranking = ("total", ("u", "v", "w"), ("x", "y"))
        # By 6 FACTORS twice, and one of a REST that splits no more: 13 LEAVES.
        two = times(p("v"), p("v.x + 1"))
        six = self.product_of("u", 6)
        self.assertEqual(len(cases(ranking, (two, six))), 12)
        seven = times(six, p("w.x^2 + w"))
        self.assertEqual(len(cases(ranking, (p("w.y - 1"), six))), 6)
        with self.assertRaises(TooGreat):
            cases(ranking, (two, seven))
        rows = [times(p("v"), p("v.x")), self.product_of("u", 6)]
        self.assertEqual(len(cases(ranking, tuple(rows))), 12)

    def test_equations_behind_the_twelfth(self):
        # Twelve EQUATIONS stand there; what is ASSUMED stands behind them.
        equations = tuple(of_derivative(("u", order, 1)) for order in range(11)) + polynomials_of("u.x*v.x")
        told = cases(UV, equations)
        self.assertEqual([one[:2] for one in told], [("closed", (p("v.x"),)), ("closed", (p("u.x"),))])
        self.assertEqual(told[0][2], chain("u.y = 0", "v.x = 0"))
        equations = tuple(of_derivative(("w", order, 1)) for order in range(10)) + polynomials_of("u*v", "u.x*v.x - u.x")
        told = cases(UVW, equations)
        self.assertEqual([len(one[1]) for one in told], [len(one[1]) for one in cases_by_hand(UVW, equations)])
        self.assertEqual(list(told), cases_by_hand(UVW, equations))

    def test_too_great_as_closing(self):
        # Closed by the first FACTOR, by the second one too great.
        second = (times(p("v"), less(high("v", 12), p("u"))), p("v.yy - w.y"))
        self.assertEqual(closing(UVW, (*second, p("v"))), ("closed", chain("v = 0", "w.y = 0")))
        for equations in (
            polynomials_of("u^9"),
            (high("u", 13),),
            (plus(p("u^2"), sum_of_terms("v", 60)),),
            (raised(p("u"), 17),),
            second,
        ):
            for call in (cases, kept_leaves):
                with self.assertRaises(TooGreat):
                    call(UVW, equations)

    def test_refused_in_order(self):
        bad = ((BadRanking, NO_RANKINGS), (BadPolynomial, NO_EQUATIONS + WITH_NONE))
        for call in (cases, kept_leaves):
            refused_in_order(self, call, (UV, polynomials_of("u*v")), bad)
            for equations, number in ((None, None), (((),) * 13, None), ((p("u^9"), p("u"), p("w")), 2)):
                with self.assertRaises(BadPolynomial) as caught:
                    call(UV, equations)
                self.assertEqual(caught.exception.number, number)


class Within(unittest.TestCase):
    def test_by_hand(self):
        for ranking, one, other, due in (
            (UV, ("u.x = 0",), (), True),
            (UV, (), ("u.x = 0",), False),
            (UV, ("u = 0",), ("u.x = 0",), True),
            (UV, ("u.x = 0",), ("u = 0",), False),
            (UV, ("u.x = 0",), ("u.x = 0",), True),
            (UV, ("u = 2",), ("u.x = 0",), True),
            (UV, ("u.x = u",), ("u.xx = u.x",), True),
            (UV, ("u.xx = u",), ("u.x = u",), False),
            (UV, ("v = 0", "u = 0"), ("u.x = v^2",), True),
            (UV, (), (), True),
        ):
            self.assertIs(is_within(ranking, chain(*one), chain(*other)), due, (one, other))
        self.assertIs(is_within(ranking=UV, chain=chain("u = 0"), other=()), True)

    def test_against_going_out(self):
        yes = no = 0
        for ranking, _, leaves in some_products(621, 80):
            closed = [one[2] for one in leaves if one[0] == "closed"] + [()]
            for one in closed:
                for other in closed:
                    told = is_within(ranking, one, other)
                    self.assertIs(told, all(goes_out(ranking, one, equation_of(ranking, pair)) for pair in other))
                    yes, no = yes + told, no + (not told)
        self.assertGreater(min(yes, no), 40)

    def test_as_series(self):
        chance = random.Random(622)
        for ranking, _, leaves in some_products(623, 40):
            closed = [one[2] for one in leaves if one[0] == "closed"]
            for one in closed:
                for other in closed:
                    if is_within(ranking, one, other):
                        jet = jet_of(ranking, one, data=some_data(chance, ranking, one))
                        self.assertIsNone(first_fault(ranking, tuple(equation_of(ranking, pair) for pair in other), jet))

    def test_refused_in_order(self):
        no_chains = NO_CHAINS_OF_UV + [OPEN[1], chain("u.y = u", "u.x = u + 1")]
        bad = ((BadRanking, NO_RANKINGS), (BadChain, no_chains), (BadChain, no_chains))
        refused_in_order(self, is_within, (*HEAT, ()), bad)
        for call in (lambda: is_within(*OPEN, ()), lambda: is_within(UV, (), OPEN[1])):
            with self.assertRaises(BadChain) as caught:
                call()
            self.assertEqual(caught.exception.place, ("open", 0, 1))
        for thing in (Odd(), Yes()):
            with self.assertRaises(BadChain) as caught:
                is_within(UV, (), thing)
            self.assertIsNone(caught.exception.place)

    def test_too_great(self):
        great = chain("u.y = u^9", "u.x = u^8*v")
        with self.assertRaises(TooGreat):
            is_closed(UV, great)
        for one, other in ((great, ()), ((), great), (great, great)):
            with self.assertRaises(TooGreat):
                is_within(UV, one, other)
        # What can't be is told first, wherever it stands.
        for one, other, place in ((great, None, None), (great, OPEN[1], ("open", 0, 1)), (None, great, None)):
            with self.assertRaises(BadChain) as caught:
                is_within(UV, one, other)
            self.assertEqual(caught.exception.place, place)
        with self.assertRaises(TooGreat):
            is_within(NAMES, chain("v = w^9"), chain("u = v^2"))


class Kept(unittest.TestCase):
    def test_by_hand(self):
        for ranking, texts, due in (
            (UV, (), (0,)),
            (UV, ("1",), ()),
            (UV, ("u*v",), (0, 1)),
            (UV, ("u.x^2 - u",), (0,)),
            (UV, ("u*u.x",), (1,)),
            (UV, ("u*v.x", "u.x - 1"), (1,)),
            (UVW, ("u*v", "v*w", "u*w"), (0, 1, 3)),
            (ONE_AXIS, ("u*u.x*u.xx",), (2,)),
        ):
            told = kept_leaves(ranking, polynomials_of(*texts))
            self.assertEqual(told, due, texts)
            self.assertIs(type(told), tuple)
        self.assertEqual(kept_leaves(ranking=UV, equations=polynomials_of("u*v")), (0, 1))

    def test_of_like_ones_the_first(self):
        told = cases(UVW, polynomials_of("u*v", "v*w", "u*w"))
        self.assertEqual(told[0][2], told[2][2])
        self.assertNotEqual(told[0][1], told[2][1])

    def test_against_the_document(self):
        had = knots = 0
        for ranking, equations, leaves in some_products(631, 200):
            due = []
            for at, (word, _, pairs, _) in enumerate(leaves):
                if word == "contradiction":
                    continue
                if word == "knot":
                    knots += 1
                    due.append(at)
                    continue
                within = [
                    other
                    for other, (kind, _, others, _) in enumerate(leaves)
                    if kind == "closed" and other != at and is_within(ranking, pairs, others)
                ]
                like = [other for other in within if is_within(ranking, leaves[other][2], pairs)]
                if all(other in like and other > at for other in within):
                    due.append(at)
                had += bool(within)
            self.assertEqual(kept_leaves(ranking, equations), tuple(due))
        self.assertGreater(min(had, knots), 10)


class Comes(unittest.TestCase):
    """That CASES cover, as [61] and [62] say."""

    def test_series_of_leaves_solve_the_equations(self):
        chance = random.Random(641)
        found = 0
        for ranking, equations, leaves in some_products(642, 60):
            for word, assumed, pairs, _ in leaves:
                if word == "closed":
                    found += 1
                    jet = jet_of(ranking, pairs, data=some_data(chance, ranking, pairs), length=4)
                    self.assertIsNone(first_fault(ranking, (*equations, *assumed), jet))
        self.assertGreater(found, 60)

    def test_series_that_solve_a_product_solve_a_leaf(self):
        # Series of each FACTOR solve the product; they are had by some KEPT LEAF.
        chance = random.Random(643)
        for _ in range(30):
            ranking = chance.choice((UV, ONE_AXIS))
            parts = [p(text) for text in chance.sample(["u.x - v", "u.x", "v", "v.x - 1", "u - v", "u.xx + u"], 2)]
            equations = (times(times(*parts), p("u")), p("v.xx"))
            try:
                leaves = cases(ranking, equations)
            except TooGreat:
                continue
            for part in [*parts, p("u")]:
                told = closing(ranking, (part, equations[1]))
                if told[0] != "closed":
                    continue
                jet = jet_of(ranking, told[1], data=some_data(chance, ranking, told[1]), length=4)
                rows = []
                for number in kept_leaves(ranking, equations):
                    word, assumed, pairs, pending = leaves[number]
                    rows.append((*(equation_of(ranking, pair) for pair in pairs), *pending))
                self.assertTrue(any(first_fault(ranking, some, jet) is None for some in rows))

    def test_assumed_factors_are_in_what_is_pending(self):
        for ranking, equations, leaves in some_products(644, 30):
            for word, assumed, _, _ in leaves:
                if len(assumed) == 1 and len(leaves) > 1:
                    pending = closing(ranking, equations)[2]
                    row = next(one for one in pending[::-1] if assumed[0] in factors(ranking, one))
                    self.assertIs(is_in_span(ranking, pending[:12], row), row in pending[:12])
                    self.assertNotEqual(constant((1, 1)), row)


if __name__ == "__main__":
    unittest.main()
