"""rankedchains.tables: promises [23] and [24]."""

import random
import unittest

from rankedchains.chains import principal_by
from rankedchains.errors import BadChain, BadPolynomial, BadRanking, OutOfPlace, TooGreat
from rankedchains.normal import normal
from rankedchains.numbers import NOUGHT, ONE
from rankedchains.polynomials import of_derivative, plus, raised, scaled
from rankedchains.rankings import all_to
from rankedchains.tables import relations, table
from systems import (
    ALL,
    BY_NAMES,
    EMPTY,
    HEAT,
    NAMES,
    ONE_AXIS,
    OPEN,
    SQUARES,
    SWING,
    UV,
    WAVE,
    normal_by_hand,
    polynomials_of,
    rows_by_hand,
    some_polynomial,
    sum_of_terms,
)
from things import NO_CHAINS_OF_UV, NO_POLYNOMIALS, NO_RANKINGS, Odd, Yes, chain, d, p, refused_in_order, things



def table_by_hand(ranking, pairs, order):
    return tuple(
        (one, normal_by_hand(ranking, pairs, of_derivative(one)))
        for one in all_to(ranking, order)
        if principal_by(ranking, pairs, one) is not None
    )


class Tables(unittest.TestCase):
    def test_by_hand(self):
        self.assertEqual(table(*HEAT, 2), ((d("u.xx"), p("u.y")),))
        self.assertEqual(
            table(*HEAT, 3), ((d("u.xx"), p("u.y")), (d("u.xxy"), p("u.yy")), (d("u.xxx"), p("u.xy")))
        )
        self.assertEqual(
            table(*SWING, 2),
            ((d("v.x"), p("-u")), (d("u.x"), p("v")), (d("v.xx"), p("-v")), (d("u.xx"), p("-u"))),
        )
        self.assertEqual(table(ONE_AXIS, chain("u = 0"), 0), ((d("u"), ()),))
        ranking, pairs = HEAT
        self.assertEqual(table(ranking=ranking, chain=pairs, order=1), ())

    def test_of_nothing(self):
        for order in range(9):
            self.assertEqual(table(*EMPTY, order), ())
            self.assertEqual(table(ONE_AXIS, (), order), ())

    def test_against_the_document(self):
        for ranking, pairs in ALL:
            for order in range(5):
                told = table(ranking, pairs, order)
                self.assertEqual(told, table_by_hand(ranking, pairs, order))

    def test_all_orders(self):
        for ranking, pairs in (HEAT, WAVE, SWING, OPEN):
            last = ()
            for order in range(9):
                told = table(ranking, pairs, order)
                self.assertEqual(told, tuple((one, normal(ranking, pairs, of_derivative(one))) for one, _ in told))
                due = [one for one in all_to(ranking, order) if principal_by(ranking, pairs, one) is not None]
                self.assertEqual([one for one, _ in told], due)
                if ranking[0] == "total":
                    self.assertEqual(told[: len(last)], last)
                last = told

    def test_orders_refused(self):
        for order in [thing for thing in things() if thing is True or not isinstance(thing, int)] + [-1, 9, 10**30]:
            for ranking, pairs in (HEAT, SWING, EMPTY):
                with self.assertRaises(OutOfPlace):
                    table(ranking, pairs, order)

    def test_too_great(self):
        pairs = chain("u.x = u^3")
        self.assertEqual(len(table(ONE_AXIS, pairs, 7)), 7)
        with self.assertRaises(TooGreat):
            table(ONE_AXIS, pairs, 8)
        for many in (120, 121):
            pairs = ((d("v"), sum_of_terms("w", many)),)
            if many == 120:
                self.assertEqual(table(NAMES, pairs, 0), pairs)
            else:
                with self.assertRaises(TooGreat):
                    table(NAMES, pairs, 0)
        # By "names" one of a great ORDER may be MET by one of a small one.
        pairs = ((d("v.x"), ()), (d("u.x"), of_derivative(("v", 0, 25))))
        self.assertEqual(table(NAMES, pairs, 1), pairs)
        with self.assertRaises(TooGreat):
            table(NAMES, pairs, 2)

    def test_refused_in_order(self):
        orders = (OutOfPlace, [-1, 9, None, True, "1", (1,), Odd(), Yes()])
        refused_in_order(self, table, (*HEAT, 3), ((BadRanking, NO_RANKINGS), (BadChain, NO_CHAINS_OF_UV), orders))


class Relations(unittest.TestCase):
    def looked_at(self, ranking, pairs, polynomials):
        told = relations(ranking, pairs, polynomials)
        forms = [normal(ranking, pairs, one) for one in polynomials]
        self.assertIs(type(told), tuple)
        self.assertEqual(len(told), len(forms) - len(rows_by_hand(ranking, forms)))
        places = []
        for row in told:
            self.assertEqual(len(row), len(forms))
            total = ()
            for number, form in zip(row, forms):
                total = plus(total, scaled(form, number))
            self.assertEqual(total, ())
            places.append(max(at for at, number in enumerate(row) if number != NOUGHT))
            self.assertEqual(row[places[-1]], ONE)
        for at, place in enumerate(places):
            self.assertEqual([row[place] for row in told], [ONE if other == at else NOUGHT for other in range(len(told))])
        self.assertEqual(places, sorted(set(places), reverse=True))
        return told

    def test_by_hand(self):
        no, one = (0, 1), (1, 1)
        for (ranking, pairs), texts, due in (
            (HEAT, ("u.xx", "u.y"), (((-1, 1), one),)),
            (HEAT, ("u", "u.y", "v"), ()),
            (HEAT, ("0",), ((one,),)),
            (HEAT, ("u.xx - u.y",), ((one,),)),
            (HEAT, ("3",), ()),
            (HEAT, ("3", "2", "u"), (((-2, 3), one, no),)),
            (HEAT, ("0", "u", "0"), ((no, no, one), (one, no, no))),
            (HEAT, ("u", "v", "2*u - 1/3*v"), (((-2, 1), (1, 3), one),)),
            (HEAT, ("u", "u + v", "v", "u - v"), (((-2, 1), one, no, one), (one, (-1, 1), one, no))),
            (SWING, ("u.x^2", "u^2", "u*v", "v.x^2 + v^2"), (((-1, 1), (-1, 1), no, one),)),
            (SWING, ("u", "u.xx", "u.xxxx"), (((-1, 1), no, one), (one, one, no))),
        ):
            self.assertEqual(relations(ranking, pairs, polynomials_of(*texts)), due, texts)
        ranking, pairs = SWING
        some = polynomials_of("u", "u.xx")
        self.assertEqual(relations(ranking=ranking, chain=pairs, polynomials=some), ((one, one),))

    def test_one_to_eight(self):
        chance = random.Random(241)
        for ranking, pairs in ALL:
            for many in range(1, 9):
                some = [some_polynomial(chance, ranking, 2, 2, 2) for _ in range(many)]
                self.looked_at(ranking, pairs, tuple(some))

    def test_sums_of_those_ahead(self):
        chance = random.Random(242)
        for ranking, pairs in (HEAT, SWING, BY_NAMES, EMPTY, SQUARES):
            some = [p("u"), p("2"), some_polynomial(chance, ranking)]
            while len(some) < 8:
                total = ()
                for one in some:
                    total = plus(total, scaled(one, (chance.randint(-2, 2), 1)))
                some.append(total)
            for many in range(4, 9):
                self.assertGreaterEqual(len(self.looked_at(ranking, pairs, tuple(some[:many]))), many - 3)
            self.looked_at(ranking, pairs, tuple(some[::-1]))

    def test_all_nought(self):
        self.assertEqual(len(self.looked_at(*HEAT, ((),) * 8)), 8)
        self.assertEqual(len(self.looked_at(*HEAT, (p("u"),) * 8)), 7)

    def test_refused_by_number(self):
        good = p("u")
        for thing in things() + [(good,) * 9, [good], list(polynomials_of("u", "v"))]:
            if not isinstance(thing, tuple) or not 1 <= len(thing) <= 8:
                with self.assertRaises(BadPolynomial) as caught:
                    relations(*HEAT, thing)
                self.assertIsNone(caught.exception.number)
        for thing in NO_POLYNOMIALS:
            for place in range(8):
                some = (good,) * place + (thing,) + (Odd(),) * (7 - place)
                with self.assertRaises(BadPolynomial) as caught:
                    relations(*HEAT, some)
                self.assertEqual(caught.exception.number, place)

    def test_too_great(self):
        self.assertEqual(relations(UV, (), (raised(p("u"), 16),)), ())
        for some in ((raised(p("u"), 17),), (p("u"), p("u"), raised(p("u"), 17))):
            with self.assertRaises(TooGreat):
                relations(UV, (), some)
        with self.assertRaises(BadPolynomial):
            relations(UV, (), (raised(p("u"), 17), None))

    def test_refused_in_order(self):
        bad = ((BadRanking, NO_RANKINGS), (BadChain, NO_CHAINS_OF_UV), (BadPolynomial, [None, (), [], 1, Odd(), Yes()]))
        refused_in_order(self, relations, (*HEAT, polynomials_of("u", "v")), bad)


if __name__ == "__main__":
    unittest.main()
