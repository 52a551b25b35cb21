"""rankedchains.series: DATA, NUMBERS by them, the JET OF DATA [50], [51], [55]."""

import random
import unittest

from rankedchains.chains import principal_by
from rankedchains.errors import BadChain, BadData, BadPolynomial, BadRanking, OutOfPlace, TooGreat
from rankedchains.jets import added_jets, cut_jet, scaled_jet
from rankedchains.normal import normal
from rankedchains.numbers import fraction, product, sum_of
from rankedchains.polynomials import constant, derivatives_in, derived, of_derivative, plus, raised, value_of
from rankedchains.rankings import all_to, in_rank, rank_compared
from rankedchains.series import LENGTH, MOST_LENGTH, hangs_on, jet_of, need_data, number_at, number_of
from systems import (
    ALL,
    BY_NAMES,
    EMPTY,
    HEAT,
    NAMES,
    ONE_AXIS,
    OPEN,
    SQUARES,
    SWING,
    TANGLED,
    UV,
    WAVE,
    YX,
    YX_NAMES,
    high,
    normal_by_hand,
    some_chain,
    some_data,
    some_polynomial,
    sum_of_terms,
)
from things import NO_CHAINS_OF_UV, NO_DERIVATIVES, NO_POLYNOMIALS, NO_RANKINGS, Odd, Yes, chain, d, p, refused_in_order, things

NO_DATA = [thing for thing in things() if not isinstance(thing, tuple)] + [[(d("u"), (1, 1))], {d("u"): (1, 1)}]
NO_LOW = NO_DERIVATIVES + [("u", 13, 0), ("u", 6, 7), ("u", 10**30, 0)]
NO_LENGTHS = [thing for thing in things() if isinstance(thing, bool) or not isinstance(thing, int)] + [-1, 9, 10**30]


def data(**numbers):
    """DATA of names such as u_xy."""
    pairs = [(d(name.replace("_", ".")), fraction(*number)) for name, number in numbers.items()]
    return tuple(sorted(pairs))


def number_by_hand(ranking, pairs, polynomial, some):
    """The VALUE of a NORMAL FORM by STEPS, however great it is."""
    return value_of(normal_by_hand(ranking, pairs, polynomial), dict(some))


class Data(unittest.TestCase):
    def refused(self, ranking, pairs, thing, place):
        for call in (
            lambda: need_data(ranking, pairs, thing),
            lambda: number_at(ranking, pairs, d("u"), data=thing),
            lambda: number_of(ranking, pairs, p("u"), data=thing),
            lambda: jet_of(ranking, pairs, data=thing),
        ):
            with self.assertRaises(BadData) as caught:
                call()
            self.assertEqual(caught.exception.place, place)

    def test_what_stands(self):
        for ranking, pairs in ALL:
            self.assertIsNone(need_data(ranking, pairs, ()))
        ranking, pairs = HEAT
        for some in (
            data(u=(1, 2)),
            data(u=(0, 1)),
            data(u=(1, 1), u_x=(-1, 1), u_yy=(1, 3), v=(0, 1), v_xx=(10**30, 7)),
            ((("u", 0, 0), (1, 1)), (("u", 0, 10**20), (1, 1)), (("u", 1, 0), (1, 1)), (("v", 40, 40), (2, 3))),
        ):
            self.assertIsNone(need_data(ranking, pairs, some))
        self.assertIsNone(need_data(ranking=ranking, chain=pairs, data=()))

    def test_no_tuple(self):
        for thing in NO_DATA:
            self.refused(*HEAT, thing, None)

    def test_each_pair(self):
        good = data(u=(1, 1), u_x=(2, 1), u_y=(3, 1), v=(4, 1))
        for at, (derivative, number) in enumerate(good):
            wrong = [
                *things(),
                [derivative, number],
                (derivative,),
                (derivative, number, number),
                (derivative, 1),
                (derivative, (2, 2)),
                (derivative, (1, 0)),
                (derivative, (1, -1)),
                (derivative, [1, 1]),
                (derivative, (True, 1)),
                (list(derivative), number),
                (d("w"), number),
                (d("u.xx"), number),
                (d("u.xxy"), number),
                (derivative, Odd()),
                (Odd(), number),
                (Yes(), Yes()),
            ]
            if at:
                wrong += [good[at - 1], (good[at - 1][0], (99, 1)), (d("u"), number) if at > 1 else (d("u"), (0, 1))]
            for thing in wrong:
                self.refused(*HEAT, good[:at] + (thing,) + good[at + 1 :], at)
                self.refused(*HEAT, good[:at] + (thing, None), at)
        self.refused(*HEAT, (good[1], good[0], None), 1)
        self.refused(*HEAT, good + good, 4)

    def test_rising_as_tuples(self):
        # By the RANKING v stands below u, by tuples behind it.
        self.assertIsNone(need_data(*HEAT, data(u_x=(1, 1), v=(1, 1))))
        self.refused(*HEAT, ((d("v"), (1, 1)), (d("u.x"), (1, 1))), 1)
        self.refused(*HEAT, ((d("u.y"), (1, 1)), (d("u"), (1, 1))), 1)

    def test_one_axis(self):
        self.refused(*SQUARES, ((d("u"), (1, 1)), (("u", 0, 1), (1, 1))), 1)
        self.refused(ONE_AXIS, (), ((("u", 0, 1), (1, 1)),), 0)

    def test_refused_in_order(self):
        bad = ((BadRanking, NO_RANKINGS), (BadChain, NO_CHAINS_OF_UV), (BadData, NO_DATA))
        refused_in_order(self, need_data, (*HEAT, ()), bad)


class Numbers(unittest.TestCase):
    def test_by_hand(self):
        some = data(u=(1, 1), u_x=(1, 2), u_y=(-3, 1), v=(5, 1))
        for text, due in (
            ("u", (1, 1)),
            ("u.x", (1, 2)),
            ("u.xx", (-3, 1)),
            ("u.xxx", (0, 1)),
            ("u.yy", (0, 1)),
            ("v", (5, 1)),
            ("v.xxxx", (0, 1)),
        ):
            told = number_at(*HEAT, d(text), data=some)
            self.assertEqual(told, due, text)
            self.assertIs(type(told), tuple)
        self.assertEqual(number_of(*HEAT, p("2*u.xx^2*v - u.x*u + 1/2"), data=some), (90, 1))
        self.assertEqual(number_of(*HEAT, ()), (0, 1))
        self.assertEqual(number_of(*HEAT, p("7/3")), (7, 3))
        self.assertEqual(number_at(*SWING, d("u.xxxxx"), data=data(u=(2, 1), v=(3, 1))), (3, 1))
        ranking, pairs = HEAT
        self.assertEqual(number_at(ranking=ranking, chain=pairs, derivative=d("u.xx"), data=some), (-3, 1))
        self.assertEqual(number_of(ranking=ranking, chain=pairs, polynomial=p("u.xx"), data=some), (-3, 1))

    def test_no_data_is_nought(self):
        for text in ("u", "v", "u.xx", "u.xyy"):
            self.assertEqual(number_at(*WAVE, d(text)), (0, 1))
        self.assertEqual(number_at(ONE_AXIS, chain("u.x = 3"), d("u.x")), (3, 1))
        self.assertEqual(number_of(*TANGLED, p("v.x + 3*v.xx")), (1, 1))

    def test_names_alone_behind_the_star(self):
        for call in (
            lambda: number_at(*HEAT, d("u"), ()),
            lambda: number_of(*HEAT, p("u"), ()),
            lambda: jet_of(*HEAT, ()),
        ):
            with self.assertRaises(TypeError):
                call()

    def test_against_the_normal_form(self):
        chance = random.Random(501)
        some_chains = [*ALL, *((one, some_chain(chance, one)) for one in (UV, YX, NAMES, YX_NAMES, ONE_AXIS) * 6)]
        for ranking, pairs in some_chains:
            for _ in range(4):
                some = some_data(chance, ranking, pairs)
                for _ in range(4):
                    one = some_polynomial(chance, ranking, 3)
                    due = number_by_hand(ranking, pairs, one, some)
                    self.assertEqual(number_of(ranking, pairs, one, data=some), due)
                    derivative = chance.choice(all_to(ranking, 4))
                    due = number_by_hand(ranking, pairs, of_derivative(derivative), some)
                    self.assertEqual(number_at(ranking, pairs, derivative, data=some), due)

    def test_of_chains_that_are_not_closed(self):
        # The first EQUATION puts for u.xy: u.y = u, derived by x.
        some = data(u=(3, 1))
        self.assertEqual(number_at(*OPEN, d("u.xy"), data=some), (9, 1))
        self.assertEqual(number_at(*OPEN, d("u.xxy"), data=some), (54, 1))
        self.assertEqual(number_of(*OPEN, derived(p("u^2"), "y"), data=some), (18, 1))

    def test_orders_above_those_that_are_put(self):
        some = data(u=(2, 1), v=(3, 1))
        with self.assertRaises(TooGreat):
            normal(*SWING, high("u", 25))
        for order, due in ((24, 2), (25, 3), (26, -2), (99, -3), (400, 2)):
            self.assertEqual(number_of(*SWING, high("u", order), data=some), (due, 1))
        # What is MET by names may be of a greater ORDER than what is asked.
        pairs = ((d("v.y"), p("w^2")), (d("u"), of_derivative(("v", 20, 0))))
        some = ((d("w"), (5, 1)), (("w", 20, 11), (1, 3)))
        self.assertEqual(number_at(NAMES, pairs, ("u", 0, 12), data=some), (10, 3))
        self.assertEqual(number_of(NAMES, pairs, of_derivative(("u", 0, 12), power=2), data=some), (100, 9))
        self.assertEqual(number_of(NAMES, pairs, of_derivative(("u", 0, 40)), data=some), (0, 1))
        for call in (normal, hangs_on):
            with self.assertRaises(TooGreat):
                call(NAMES, pairs, ("u", 0, 12) if call is hangs_on else of_derivative(("u", 0, 12)))

    def test_free_ones_of_any_order(self):
        some = ((("u", 0, 10**20), (5, 7)),)
        self.assertEqual(number_of(*HEAT, of_derivative(("u", 0, 10**20), power=2), data=some), (25, 49))

    def test_terms_and_degrees_above_those_of_normal_forms(self):
        many = sum_of_terms("v", 130)
        pairs = ((d("u"), many),)
        some = tuple((monomial[0][0], (at + 1, 1)) for at, (monomial, _) in enumerate(many))
        self.assertEqual(number_at(NAMES, pairs, d("u"), data=some), (130 * 131 // 2, 1))
        with self.assertRaises(TooGreat):
            hangs_on(NAMES, pairs, d("u"))
        pairs = chain("u.x = u^9")
        some = data(u=(2, 1))
        self.assertEqual(number_at(ONE_AXIS, pairs, d("u.xx"), data=some), (9 * 2**17, 1))
        product_of = 1
        for order in range(1, 13):
            product_of *= 8 * order - 7
            self.assertEqual(number_at(ONE_AXIS, pairs, ("u", order, 0), data=some), (product_of * 2 ** (8 * order + 1), 1))
        self.assertEqual(number_of(*SWING, raised(p("u.x"), 40), data=data(v=(-1, 2))), (1, 2**40))
        self.assertEqual(number_of(ONE_AXIS, pairs, of_derivative(d("u.x"), power=100), data=data(u=(2, 1))), (2**900, 1))

    def test_great_rights_are_reckoned_all_the_same(self):
        # Derived by hand, these RIGHTS would be of thousands of terms.
        right = p("u*v*u.y + u.y^3*v + u^4*v.y^2 + v^3 - u + 1")
        pairs = ((d("v.x"), p("v^2*v.y - v")), (d("u.x"), right))
        some = data(u=(1, 2), v=(-1, 3), u_y=(2, 1), v_y=(1, 1), u_yy=(1, 5))
        told = dict(jet_of(UV, pairs, data=some, length=8))
        self.assertEqual(len(told), 72)
        for order in range(3):
            one = of_derivative(("u", order, 0))
            self.assertEqual(told[("u", order, 0)], number_by_hand(UV, pairs, one, some))

    def test_refused_in_order(self):
        front = ((BadRanking, NO_RANKINGS), (BadChain, NO_CHAINS_OF_UV))
        behind = (BadData, NO_DATA)
        at = lambda ranking, pairs, one, some: number_at(ranking, pairs, one, data=some)
        of = lambda ranking, pairs, one, some: number_of(ranking, pairs, one, data=some)
        refused_in_order(self, at, (*HEAT, d("u"), ()), (*front, (OutOfPlace, NO_LOW), behind))
        refused_in_order(self, of, (*HEAT, p("u"), ()), (*front, (BadPolynomial, NO_POLYNOMIALS), behind))
        with self.assertRaises(BadPolynomial) as caught:
            number_of(*HEAT, p("u + w"))
        self.assertIsNone(caught.exception.number)
        self.assertEqual(number_at(*EMPTY, ("u", 6, 6)), (0, 1))


class Jets(unittest.TestCase):
    def test_by_hand(self):
        told = jet_of(*SWING, data=data(u=(1, 1), v=(2, 1)), length=3)
        due = (("u", 1), ("u.x", 2), ("u.xx", -1), ("v", 2), ("v.x", -1), ("v.xx", -2))
        self.assertEqual(told, tuple((d(text), (number, 1)) for text, number in due))
        told = jet_of(UV, chain("u.x = u.y", "u.yy = u"), data=data(u=(1, 1), v_x=(1, 3)), length=2)
        due = (("u", (1, 1)), ("u.y", (0, 1)), ("u.x", (0, 1)), ("v", (0, 1)), ("v.y", (0, 1)), ("v.x", (1, 3)))
        self.assertEqual(told, tuple((d(text), number) for text, number in due))
        ranking, pairs = SWING
        self.assertEqual(jet_of(ranking=ranking, chain=pairs, data=(), length=1), ((d("u"), (0, 1)), (d("v"), (0, 1))))

    def test_lengths(self):
        self.assertEqual((LENGTH, MOST_LENGTH), (4, 8))
        chance = random.Random(511)
        for ranking, pairs in (HEAT, WAVE, SWING, BY_NAMES, OPEN, EMPTY):
            some = some_data(chance, ranking, pairs)
            whole = jet_of(ranking, pairs, data=some, length=8)
            self.assertEqual(jet_of(ranking, pairs, data=some), jet_of(ranking, pairs, data=some, length=4))
            for length in range(9):
                told = jet_of(ranking, pairs, data=some, length=length)
                due = sorted(one for one in all_to(ranking, 7) if one[1] + one[2] < length)
                self.assertEqual([one for one, _ in told], due)
                self.assertEqual(told, cut_jet(ranking, whole, length))
                for one, number in told[:: max(1, len(told) // 12)]:
                    self.assertEqual(number, number_at(ranking, pairs, one, data=some))
            if len(ranking[2]) == 2:
                self.assertEqual(len(whole), len(ranking[1]) * 36)
        self.assertEqual(jet_of(*HEAT, length=0), ())

    def test_never_too_great(self):
        told = dict(jet_of(ONE_AXIS, chain("u.x = u^9"), data=data(u=(1, 1)), length=8))
        due = 1
        for order in range(1, 8):
            due *= 8 * order - 7
            self.assertEqual(told[("u", order, 0)], (due, 1))

    def test_refused_in_order(self):
        call = lambda ranking, pairs, some, length: jet_of(ranking, pairs, data=some, length=length)
        bad = ((BadRanking, NO_RANKINGS), (BadChain, NO_CHAINS_OF_UV), (BadData, NO_DATA), (OutOfPlace, NO_LENGTHS))
        refused_in_order(self, call, (*HEAT, (), 3), bad)

    def test_what_is_handed_in_is_as_it_was(self):
        some = data(u=(1, 1))
        pairs = chain("u.xx = u.y")
        jet_of(UV, pairs, data=some)
        self.assertEqual((some, pairs), (data(u=(1, 1)), HEAT[1]))


class Hangs(unittest.TestCase):
    def test_by_hand(self):
        for (ranking, pairs), text, due in (
            (HEAT, "u", ("u",)),
            (HEAT, "u.xxxx", ("u.yy",)),
            (HEAT, "v.xyxyxy", ("v.xxxyyy",)),
            (WAVE, "u.yy", ("v", "u.xx")),
            (WAVE, "v.x", ()),
            (SQUARES, "u.xxx", ("v", "u", "v.x", "u.x")),
            ((ONE_AXIS, chain("u.x = 3")), "u.x", ()),
            ((ONE_AXIS, chain("u.x = 3")), "u.xx", ()),
        ):
            told = hangs_on(ranking, pairs, d(text))
            self.assertEqual(told, tuple(d(one) for one in due), text)
        ranking, pairs = HEAT
        self.assertEqual(hangs_on(ranking=ranking, chain=pairs, derivative=d("u.xx")), (d("u.y"),))

    def test_rising_and_none_above(self):
        chance = random.Random(551)
        for ranking, pairs in [*ALL, *((one, some_chain(chance, one)) for one in (UV, YX, NAMES, YX_NAMES) * 4)]:
            for derivative in all_to(ranking, 3):
                try:
                    form = normal(ranking, pairs, of_derivative(derivative))
                except TooGreat:
                    continue
                told = hangs_on(ranking, pairs, derivative)
                self.assertIs(type(told), tuple)
                self.assertEqual(list(told), in_rank(ranking, derivatives_in(form)))
                for one in told:
                    self.assertLessEqual(rank_compared(ranking, one, derivative), 0)
                    self.assertIsNone(principal_by(ranking, pairs, one))

    def test_data_change_what_hangs_on_them(self):
        chance = random.Random(552)
        for ranking, pairs in ALL:
            some = dict(some_data(chance, ranking, pairs))
            free = [one for one in all_to(ranking, 2) if principal_by(ranking, pairs, one) is None]
            one = chance.choice(free)
            other = {**some, one: sum_of(some.get(one, (0, 1)), (7, 3))}
            jets = [dict(jet_of(ranking, pairs, data=tuple(sorted(every.items())))) for every in (some, other)]
            for derivative in jets[0]:
                if jets[0][derivative] != jets[1][derivative]:
                    self.assertIn(one, hangs_on(ranking, pairs, derivative))
                    self.assertLessEqual(rank_compared(ranking, one, derivative), 0)
            self.assertNotEqual(number_at(ranking, pairs, one, data=tuple(sorted(other.items()))), some.get(one, (0, 1)))

    def test_sums_and_products(self):
        chance = random.Random(553)
        linear = (HEAT, SWING, EMPTY, (NAMES, chain("w.xx = w.y", "v.y = w.x - 2*w", "u.x = v.xx + 1/2*w")))
        for ranking, pairs in linear:
            one, other = (some_data(chance, ranking, pairs) for _ in range(2))
            by = (-3, 7)
            both = {key: sum_of(dict(one).get(key, (0, 1)), dict(other).get(key, (0, 1))) for key, _ in one + other}
            many = tuple((key, product(number, by)) for key, number in one)
            jets = [jet_of(ranking, pairs, data=every, length=6) for every in (one, other)]
            told = jet_of(ranking, pairs, data=tuple(sorted(both.items())), length=6)
            self.assertEqual(added_jets(ranking, *jets), told)
            self.assertEqual(scaled_jet(ranking, jets[0], by), jet_of(ranking, pairs, data=many, length=6))

    def test_too_great(self):
        pairs = chain("u.x = u^4")
        self.assertEqual(hangs_on(ONE_AXIS, pairs, ("u", 5, 0)), (d("u"),))
        with self.assertRaises(TooGreat):
            hangs_on(ONE_AXIS, pairs, ("u", 6, 0))
        self.assertEqual(number_at(ONE_AXIS, pairs, ("u", 6, 0), data=data(u=(1, 1))), (1 * 4 * 7 * 10 * 13 * 16, 1))

    def test_refused_in_order(self):
        bad = ((BadRanking, NO_RANKINGS), (BadChain, NO_CHAINS_OF_UV), (OutOfPlace, NO_LOW))
        refused_in_order(self, hangs_on, (*HEAT, d("u")), bad)
        self.assertEqual(hangs_on(*HEAT, ("u", 1, 11)), (("u", 1, 11),))

    def test_constants_stay(self):
        self.assertEqual(number_of(UV, (), plus(constant((1, 2)), p("u"))), (1, 2))


if __name__ == "__main__":
    unittest.main()
