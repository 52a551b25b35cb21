"""rankedchains.taylor: TAYLOR along JETS, what a JET SOLVES, its FAULTS [52] to [54]."""

import random
import unittest

from rankedchains.chains import equation_of
from rankedchains.conditions import is_closed
from rankedchains.errors import BadJet, BadPolynomial, BadRanking
from rankedchains.jets import cut_jet, data_of
from rankedchains.polynomials import derived, less, plus, raised, times
from rankedchains.rankings import all_to
from rankedchains.series import jet_of
from rankedchains.taylor import first_fault, solves, taylor_of
from systems import (
    HEAT,
    NAMES,
    ONE_AXIS,
    OPEN,
    SWING,
    UV,
    WAVE,
    YX,
    YX_NAMES,
    polynomials_of,
    some_data,
    some_jet,
    some_polynomial,
    some_systems,
    sum_of_terms,
    taylor_by_hand,
)
from things import NO_POLYNOMIALS, NO_RANKINGS, Odd, Yes, chain, d, p, refused_in_order, things

NO_JETS = [thing for thing in things() if not isinstance(thing, tuple)]
NO_TUPLES = [thing for thing in things() if not isinstance(thing, tuple)] + [[p("u")]]
FOUR = tuple((("u", by_x, 0), (2 + by_x, 1)) for by_x in range(4))
ONE_U = ("total", ("u",), ("x",))


class Taylor(unittest.TestCase):
    def test_by_hand(self):
        # u is 2 + 3x + 4x^2/2 + 5x^3/6.
        for text, due in (
            ("u", [2, 3, 4, 5]),
            ("u.x", [3, 4, 5]),
            ("u.xxx", [5]),
            ("u^2", [4, 12, 34, 92]),
            ("u*u.x", [6, 17, 46]),
            ("u - 2*u.xx", [-6, -7]),
            ("7", [7, 0, 0, 0]),
            ("u + 1", [3, 3, 4, 5]),
            ("0", [0, 0, 0, 0]),
            ("u.xxxx", []),
            ("u + u.xxxxxx", []),
        ):
            told = taylor_of(ONE_U, p(text), FOUR)
            self.assertIs(type(told), dict)
            self.assertEqual(list(told.items()), [((at, 0), (number, 1)) for at, number in enumerate(due)], text)
        told = taylor_of(ranking=ONE_U, polynomial=p("u.xxx"), jet=FOUR)
        self.assertEqual(told, {(0, 0): (5, 1)})

    def test_order_of_the_dict(self):
        told = taylor_of(UV, p("u.x*v"), some_jet(random.Random(521), UV, 4))
        self.assertEqual(list(told), [(0, 0), (0, 1), (1, 0), (0, 2), (1, 1), (2, 0)])
        told = taylor_of(YX, p("3"), some_jet(random.Random(521), YX, 2))
        self.assertEqual(list(told.items()), [((0, 0), (3, 1)), ((0, 1), (0, 1)), ((1, 0), (0, 1))])
        told = taylor_of(ONE_AXIS, (), some_jet(random.Random(521), ONE_AXIS, 3))
        self.assertEqual(list(told.items()), [((0, 0), (0, 1)), ((1, 0), (0, 1)), ((2, 0), (0, 1))])

    def test_lengths(self):
        for ranking in (UV, ONE_AXIS):
            self.assertEqual(taylor_of(ranking, p("3"), ()), {})
            self.assertEqual(taylor_of(ranking, p("u"), ()), {})
            one = some_jet(random.Random(522), ranking, 1)
            self.assertEqual(taylor_of(ranking, p("u"), one), {(0, 0): dict(one)[d("u")]})
            self.assertEqual(taylor_of(ranking, p("u + u.x"), one), {})

    def test_against_deriving(self):
        chance = random.Random(523)
        for ranking in (UV, YX, NAMES, YX_NAMES, ONE_AXIS):
            for length in (0, 1, 2, 3, 5, 8):
                jet = some_jet(chance, ranking, length)
                for _ in range(4 if length < 8 else 1):
                    one = some_polynomial(chance, ranking, 2, 3, 3)
                    told = taylor_of(ranking, one, jet)
                    due = taylor_by_hand(ranking, one, jet, length)
                    self.assertEqual(list(told.items()), list(due.items()))

    def test_powers_and_products(self):
        chance = random.Random(524)
        for ranking, length in ((ONE_AXIS, 6), (UV, 4)):
            jet = some_jet(chance, ranking, length)
            for one in (raised(p("u"), 7), times(raised(p("u.x"), 3), raised(p("v"), 5)), p("u^2*v^2*u.x^2 - 1/3*u^6*v")):
                self.assertEqual(taylor_of(ranking, one, jet), taylor_by_hand(ranking, one, jet, length))

    def test_never_too_great(self):
        jet = tuple((one, (1, 1)) for one in sorted(all_to(ONE_U, 7)))
        told = taylor_of(ONE_U, raised(p("u"), 300), jet)
        # All derivatives of e^x are 1 there, so those of e^300x are powers of 300.
        self.assertEqual(told, {(order, 0): (300**order, 1) for order in range(8)})
        many = sum_of_terms("u", 36)
        one = times(many, many)
        jet = some_jet(random.Random(525), UV, 8)
        self.assertEqual(taylor_of(UV, one, jet), {(0, 0): taylor_by_hand(UV, one, jet, 8)[(0, 0)]})

    def test_the_dict_is_the_askers_own(self):
        taylor_of(ONE_U, p("u"), FOUR).clear()
        self.assertEqual(len(taylor_of(ONE_U, p("u"), FOUR)), 4)

    def test_refused(self):
        bad = ((BadRanking, NO_RANKINGS), (BadPolynomial, NO_POLYNOMIALS), (BadJet, NO_JETS))
        for call in (taylor_of, solves):
            refused_in_order(self, call, (UV, p("u"), ()), bad)
            with self.assertRaises(BadPolynomial) as caught:
                call(UV, p("u + w"), None)
            self.assertIsNone(caught.exception.number)


class Solves(unittest.TestCase):
    def test_by_hand(self):
        jet = tuple((("u", by_x, 0), (1, 1)) for by_x in range(4))
        self.assertIs(solves(ONE_U, p("u.x - u"), jet), True)
        self.assertIs(solves(ONE_U, p("u.xx - u.x^2"), jet), False)
        self.assertIs(solves(ONE_U, p("u.xxx - 2*u + 1"), jet), True)
        self.assertIs(solves(ONE_U, p("u^2 - 2*u + 1"), jet), False)
        self.assertIs(solves(ONE_U, (), jet), True)
        self.assertIs(solves(ONE_U, p("1"), jet), False)
        # Where nothing is told, nothing is broken.
        self.assertIs(solves(ONE_U, p("1"), ()), True)
        self.assertIs(solves(ONE_U, p("u.xxxx - 7"), jet), True)
        self.assertIs(solves(ranking=ONE_U, polynomial=p("u - 1"), jet=jet), False)

    def test_as_all_taylor(self):
        chance = random.Random(531)
        words = []
        for ranking in (UV, ONE_AXIS, NAMES):
            for _ in range(40):
                jet = tuple((one, (chance.choice((0, 0, 1)), 1)) for one, _ in some_jet(chance, ranking, 3))
                one = some_polynomial(chance, ranking, 2)
                told = solves(ranking, one, jet)
                self.assertIs(told, all(number == (0, 1) for number in taylor_of(ranking, one, jet).values()))
                words.append(told)
        self.assertGreater(words.count(True), 5)
        self.assertGreater(words.count(False), 5)


class Faults(unittest.TestCase):
    def test_by_hand(self):
        jet = tuple((("u", by_x, 0), (1, 1)) for by_x in range(4))
        for texts, due in (
            ((), None),
            (("u.x - u",), None),
            (("u.x - u", "u - 1"), (1, 1, 0)),
            (("u.x - u", "u.xx", "u"), (1, 0, 0)),
            (("u.xxxx", "u.xx - u", "u^2 - u"), (2, 1, 0)),
            (("0", "u^2 - 2*u + 1"), (1, 2, 0)),
            (("0", "1"), (1, 0, 0)),
        ):
            self.assertEqual(first_fault(ONE_U, polynomials_of(*texts), jet), due)
        self.assertEqual(first_fault(ranking=ONE_U, polynomials=polynomials_of("u"), jet=jet), (0, 0, 0))

    def test_first_place_by_two_axes(self):
        ranking = ("total", ("u",), ("x", "y"))
        every = sorted(all_to(ranking, 3))
        for places, due in (
            (("u.xx", "u.xy"), (0, 1, 1)),
            (("u.xx", "u.y"), (0, 0, 1)),
            (("u.x", "u.yy"), (0, 1, 0)),
            (("u.yy", "u.xx", "u.xy"), (0, 0, 2)),
            (("u.xxx",), (0, 3, 0)),
        ):
            jet = tuple((one, (int(one in [d(place) for place in places]), 1)) for one in every)
            self.assertEqual(first_fault(ranking, (p("u"),), jet), due)

    def test_more_than_twelve(self):
        jet = tuple((("u", by_x, 0), (1, 1)) for by_x in range(4))
        self.assertEqual(first_fault(ONE_U, (p("u.x - u"),) * 20 + (p("u"),), jet), (20, 0, 0))

    def test_refused(self):
        jet = some_jet(random.Random(532), UV, 2)
        bad = ((BadRanking, NO_RANKINGS), (BadPolynomial, NO_TUPLES), (BadJet, NO_JETS))
        refused_in_order(self, first_fault, (UV, (p("u"),), jet), bad)
        for thing in NO_TUPLES:
            with self.assertRaises(BadPolynomial) as caught:
                first_fault(UV, thing, None)
            self.assertIsNone(caught.exception.number)
        for thing in NO_POLYNOMIALS:
            for some, due in (((thing,), 0), ((p("u"), p("1"), thing, None), 2), (((),) * 15 + (thing,), 15)):
                with self.assertRaises(BadPolynomial) as caught:
                    first_fault(UV, some, None)
                self.assertEqual(caught.exception.number, due)
        for thing in (Odd(), Yes()):
            with self.assertRaises(BadJet):
                first_fault(UV, (), thing)


class Comes(unittest.TestCase):
    """What [54] says that it comes to."""

    def closed_ones(self, seed, many):
        for ranking, equations, told in some_systems(seed, many):
            if told[0] == "closed":
                yield ranking, equations, told[1]
        for ranking, pairs in (HEAT, WAVE, SWING):
            yield ranking, tuple(equation_of(ranking, pair) for pair in pairs), pairs

    def test_the_jet_of_data_solves(self):
        chance = random.Random(541)
        for ranking, equations, pairs in self.closed_ones(542, 60):
            self.assertIs(is_closed(ranking, pairs), True)
            for _ in range(2):
                some = some_data(chance, ranking, pairs)
                jet = jet_of(ranking, pairs, data=some, length=5)
                for one in (*equations, *(equation_of(ranking, pair) for pair in pairs)):
                    self.assertIs(solves(ranking, one, jet), True)
                    follows = times(derived(one, "x"), some_polynomial(chance, ranking, 1, 2, 1))
                    self.assertIs(solves(ranking, follows, jet), True)
                self.assertIsNone(first_fault(ranking, equations, jet))
                self.assertEqual(cut_jet(ranking, jet, 3), jet_of(ranking, pairs, data=some, length=3))

    def test_just_this_jet_has_these_data(self):
        chance = random.Random(543)
        found = 0
        for ranking, _, pairs in self.closed_ones(544, 60):
            if ranking[0] != "total" or not pairs:
                continue
            some = some_data(chance, ranking, pairs)
            jet = jet_of(ranking, pairs, data=some, length=4)
            self.assertEqual(jet, jet_of(ranking, pairs, data=data_of(ranking, pairs, jet), length=4))
            equations = tuple(equation_of(ranking, pair) for pair in pairs)
            leaders = [leader for leader, _ in pairs]
            for at, (one, number) in enumerate(jet):
                free = not any(way[0] == one[0] and way[1] <= one[1] and way[2] <= one[2] for way in leaders)
                if free:
                    continue
                found += 1
                other = jet[:at] + ((one, (number[0] + number[1], number[1])),) + jet[at + 1 :]
                self.assertEqual(data_of(ranking, pairs, other), data_of(ranking, pairs, jet))
                self.assertIsNotNone(first_fault(ranking, equations, other))
        self.assertGreater(found, 100)

    def test_of_what_is_not_closed_nothing_is_promised(self):
        ranking, pairs = OPEN
        jet = jet_of(ranking, pairs, data=((d("u"), (1, 1)),), length=3)
        told = [solves(ranking, equation_of(ranking, pair), jet) for pair in pairs]
        self.assertEqual(told, [True, False])

    def test_differences(self):
        # By SWING u^2 + v^2 stays: all its TAYLOR is nought but at one place.
        jet = jet_of(*SWING, data=((d("u"), (3, 1)), (d("v"), (4, 1))), length=6)
        told = taylor_of(ONE_AXIS, p("u^2 + v^2"), jet)
        self.assertEqual(list(told.values()), [(25, 1)] + [(0, 1)] * 5)
        self.assertIs(solves(ONE_AXIS, less(p("u^2 + v^2"), p("25")), jet), True)
        self.assertEqual(first_fault(ONE_AXIS, (plus(p("u^2 + v^2"), p("25")),), jet), (0, 0, 0))


if __name__ == "__main__":
    unittest.main()
