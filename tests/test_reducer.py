"""rankedchains.reducer: promise [25]."""

import random
import unittest

from rankedchains.errors import BadChain, BadPolynomial, BadRanking, OutOfPlace, TooGreat
from rankedchains.normal import are_like, met, normal
from rankedchains.polynomials import of_derivative, plus, raised
from rankedchains.rankings import in_rank
from rankedchains.reducepaper import check_reduce, reduce_paper
from rankedchains.reducer import Reducer
from systems import ALL, HEAT, NAMES, ONE_AXIS, OPEN, SQUARES, SWING, UV, high, some_polynomial, sum_of_terms
from things import NO_CHAINS_OF_UV, NO_DERIVATIVES, NO_POLYNOMIALS, NO_RANKINGS, Odd, Yes, chain, d, p, refused_in_order, things


class Told(unittest.TestCase):
    def test_by_places_and_by_names(self):
        ranking, pairs = HEAT
        for reducer in (Reducer(ranking, pairs), Reducer(ranking=ranking, chain=pairs)):
            self.assertEqual(reducer.normal(p("u.xxxx")), p("u.yy"))
            self.assertEqual(reducer.normal(polynomial=p("u.xxxx")), p("u.yy"))
            self.assertEqual(reducer.reduce_paper(p("u.xx")), (p("u.y"), ((0, 0, 0, p("1")),)))
            self.assertEqual(reducer.reduce_paper(polynomial=p("u.xx")), (p("u.y"), ((0, 0, 0, p("1")),)))
            self.assertIs(reducer.are_like(p("u.xx"), p("u.y")), True)
            self.assertIs(reducer.are_like(polynomial=p("u.xx"), other=p("u")), False)
            self.assertIs(reducer.knows(d("u.xx")), True)
            self.assertIs(reducer.knows(derivative=d("u.xxx")), False)

    def test_it_tells_what_is_told_without_it(self):
        chance = random.Random(251)
        for ranking, pairs in ALL:
            reducer = Reducer(ranking, pairs)
            for _ in range(15):
                one, other = (some_polynomial(chance, ranking) for _ in range(2))
                self.assertEqual(reducer.normal(one), normal(ranking, pairs, one))
                self.assertEqual(reducer.reduce_paper(other), reduce_paper(ranking, pairs, other))
                self.assertEqual(check_reduce(ranking, pairs, other, reducer.reduce_paper(other)), reducer.normal(other))
                self.assertIs(reducer.are_like(one, other), are_like(ranking, pairs, one, other))
                self.assertIs(reducer.are_like(one, reducer.normal(one)), True)

    def test_too_great_as_without_it(self):
        reducer = Reducer(ONE_AXIS, chain("u.x = u^2"))
        self.assertEqual(reducer.normal(high("u", 15)), normal(ONE_AXIS, chain("u.x = u^2"), high("u", 15)))
        for one in (high("u", 16), high("u", 25), plus(high("v", 3), high("u", 24)), raised(p("v"), 17), p("u.x^9")):
            for call in (reducer.normal, reducer.reduce_paper, lambda one: reducer.are_like(one, ())):
                with self.assertRaises(TooGreat):
                    call(one)


class Known(unittest.TestCase):
    def test_behind_each_call(self):
        ranking, pairs = SQUARES
        reducer = Reducer(ranking, pairs)
        self.assertEqual(reducer.known(), [])
        self.assertEqual(len(reducer), 0)
        reducer.normal(p("u + v.xx"))
        self.assertEqual(reducer.known(), [])
        reducer.normal(p("v.xxx"))
        self.assertEqual(reducer.known(), [(d("v.xxx"), p("1/3*v"))])
        reducer.reduce_paper(p("u.xxx"))
        due = [d("u.xx"), d("v.xxx"), d("u.xxx")]
        self.assertEqual(reducer.known(), [(one, normal(ranking, pairs, of_derivative(one))) for one in due])
        reducer.are_like(p("u.xxx"), p("u.xxx"))
        self.assertEqual(len(reducer), 3)
        reducer.are_like(p("v.xxxx"), p("v.x"))
        self.assertEqual([one for one, _ in reducer.known()], [d("u.xx"), d("v.xxx"), d("u.xxx"), d("v.xxxx")])
        self.assertEqual(len(reducer), 4)

    def test_all_that_was_met(self):
        chance = random.Random(252)
        for ranking, pairs in ALL:
            reducer = Reducer(ranking, pairs)
            due = []
            for _ in range(12):
                one = some_polynomial(chance, ranking)
                reducer.normal(one)
                due.extend(met(ranking, pairs, one))
                told = reducer.known()
                self.assertIs(type(told), list)
                self.assertEqual([derivative for derivative, _ in told], in_rank(ranking, due))
                self.assertEqual(len(reducer), len(told))
                for derivative, form in told:
                    self.assertEqual(form, normal(ranking, pairs, of_derivative(derivative)))
                    self.assertIs(reducer.knows(derivative), True)

    def test_free_ones_are_not_known(self):
        reducer = Reducer(*HEAT)
        reducer.normal(p("u.xx + u.y"))
        self.assertIs(reducer.knows(d("u.y")), False)
        self.assertIs(reducer.knows(d("u.xxx")), False)

    def test_what_is_refused_leaves_it(self):
        reducer = Reducer(*OPEN)
        reducer.normal(p("u.xy"))
        before = reducer.known()
        for thing in NO_POLYNOMIALS:
            for call in (
                lambda: reducer.normal(thing),
                lambda: reducer.reduce_paper(thing),
                lambda: reducer.are_like(thing, Odd()),
                lambda: reducer.are_like(p("u.xxx"), thing),
            ):
                with self.assertRaises(BadPolynomial) as caught:
                    call()
                self.assertIsNone(caught.exception.number)
        for thing in NO_DERIVATIVES:
            with self.assertRaises(OutOfPlace):
                reducer.knows(thing)
        self.assertEqual(reducer.known(), before)

    def test_what_is_too_great_leaves_it(self):
        reducer = Reducer(ONE_AXIS, chain("v.x = u", "u.x = u^2"))
        reducer.normal(p("u.xx"))
        before = reducer.known()
        # Much of what is MET here is not TooGreat by itself.
        for one in (high("u", 16), plus(high("v", 5), high("u", 17)), plus(high("u", 5), high("u", 25)), p("u.xxx^5")):
            for call in (reducer.normal, reducer.reduce_paper, lambda one: reducer.are_like((), one)):
                with self.assertRaises(TooGreat):
                    call(one)
                self.assertEqual(reducer.known(), before)
        reducer = Reducer(NAMES, ((d("v"), sum_of_terms("w", 11)),))
        with self.assertRaises(TooGreat):
            reducer.normal(raised(p("v"), 3))
        self.assertEqual(len(reducer), 0)

    def test_what_is_told_may_be_changed(self):
        reducer = Reducer(*HEAT)
        reducer.normal(p("u.xxx"))
        told = reducer.known()
        told.clear()
        self.assertEqual(reducer.known(), [(d("u.xxx"), p("u.xy"))])
        self.assertIs(reducer.knows(d("u.xxx")), True)

    def test_forget(self):
        reducer = Reducer(*HEAT)
        self.assertEqual(reducer.forget(), 0)
        reducer.normal(p("u.xxxx*u.xxy"))
        told = reducer.known()
        self.assertEqual(reducer.forget(), 2)
        self.assertEqual(reducer.known(), [])
        self.assertEqual(len(reducer), 0)
        self.assertIs(reducer.knows(d("u.xxy")), False)
        self.assertEqual(reducer.forget(), 0)
        self.assertEqual(reducer.normal(p("u.xxxx*u.xxy")), p("u.yy^2"))
        self.assertEqual(reducer.known(), told)


class Copies(unittest.TestCase):
    def test_each_goes_on_by_itself(self):
        reducer = Reducer(*SWING)
        reducer.normal(p("u.x"))
        other = reducer.copied()
        self.assertIs(type(other), Reducer)
        self.assertEqual(other.known(), [(d("u.x"), p("v"))])
        other.normal(p("v.x"))
        self.assertEqual((len(reducer), len(other)), (1, 2))
        reducer.normal(p("u.xxx"))
        self.assertEqual((len(reducer), len(other)), (3, 2))
        self.assertEqual(other.forget(), 2)
        self.assertEqual(len(reducer), 3)
        third = reducer.copied()
        self.assertEqual(reducer.forget(), 3)
        self.assertEqual(len(third), 3)

    def test_equality(self):
        ranking, pairs = HEAT
        reducer = Reducer(ranking, pairs)
        other = Reducer(ranking, pairs)
        self.assertTrue(reducer == other)
        other.normal(p("u.xx"))
        self.assertTrue(reducer == other)
        self.assertTrue(other.copied() == reducer)
        self.assertFalse(reducer != other)
        for unlike in (
            Reducer(ranking, ()),
            Reducer(ranking, chain("u.xx = 0")),
            Reducer(("total", ("v", "u"), ("x", "y")), pairs),
            Reducer(("total", ("u", "v"), ("y", "x")), chain("u.yy = u.x")),
            Reducer(("names", ("u", "v"), ("x", "y")), pairs),
        ):
            self.assertFalse(reducer == unlike)
            self.assertTrue(reducer != unlike)

    def test_with_anything_else(self):
        reducer = Reducer(*HEAT)
        for thing in things() + [HEAT, HEAT[1]]:
            if not isinstance(thing, (Odd, Yes)):
                self.assertFalse(reducer == thing)
            self.assertIs(reducer.__eq__(thing), False)

    def test_what_is_handed_in_is_as_it_was(self):
        ranking, pairs = (UV, chain("u.xx = u.y"))
        one = p("u.xxx")
        reducer = Reducer(ranking, pairs)
        reducer.normal(one)
        reducer.reduce_paper(one)
        self.assertEqual((ranking, pairs), HEAT)
        self.assertEqual(one, p("u.xxx"))


class Refused(unittest.TestCase):
    def test_in_order(self):
        refused_in_order(self, Reducer, HEAT, ((BadRanking, NO_RANKINGS), (BadChain, NO_CHAINS_OF_UV)))
        reducer = Reducer(*HEAT)
        bad = (BadPolynomial, NO_POLYNOMIALS)
        refused_in_order(self, reducer.normal, (p("u"),), (bad,))
        refused_in_order(self, reducer.reduce_paper, (p("u"),), (bad,))
        refused_in_order(self, reducer.are_like, (p("u"), p("v")), (bad, bad))
        refused_in_order(self, reducer.knows, (d("u"),), ((OutOfPlace, NO_DERIVATIVES),))
        with self.assertRaises(BadPolynomial):
            reducer.are_like(high("u", 40), 3)

    def test_places(self):
        with self.assertRaises(BadChain) as caught:
            Reducer(UV, chain("v = 0", "u = v"))
        self.assertEqual(caught.exception.place, ("principal", 1))


if __name__ == "__main__":
    unittest.main()
