"""rankedchains.jets: JETS and what is made of them [51], [55]."""

import random
import unittest

from rankedchains.chains import principal_by
from rankedchains.errors import BadChain, BadJet, BadRanking, OutOfPlace
from rankedchains.jets import added_jets, cut_jet, data_of, length_of, scaled_jet
from rankedchains.numbers import product, sum_of
from rankedchains.rankings import all_to
from rankedchains.series import jet_of
from rankedchains.taylor import first_fault, solves, taylor_of
from systems import ALL, HEAT, NAMES, ONE_AXIS, SWING, UV, YX, YX_NAMES, some_data, some_jet
from things import NO_CHAINS_OF_UV, NO_RANKINGS, Odd, Yes, chain, d, p, refused_in_order, things

NO_JETS = [thing for thing in things() if not isinstance(thing, tuple)] + [[(d("u"), (1, 1))]]
NO_FRACTIONS = [thing for thing in things() if thing is None or not isinstance(thing, tuple)] + [
    (),
    (2, 2),
    (1, 0),
    (1, -1),
    (True, 1),
    [1, 1],
    (1, 1, 1),
    (Odd(), Odd()),
]
NO_LENGTHS = [thing for thing in things() if isinstance(thing, bool) or not isinstance(thing, int)] + [-1, 9, 10**30]


def jet(*rows):
    """A JET of rows such as ("u.x", 2)."""
    return tuple((d(text), (number, 1)) for text, number in rows)


ONE = jet(("u", 1), ("u.x", 2), ("v", 3), ("v.x", 4))
TWO = jet(("u", 1), ("u.y", 2), ("u.x", 3), ("v", 4), ("v.y", 5), ("v.x", 6))


class Lengths(unittest.TestCase):
    def test_by_hand(self):
        self.assertEqual(length_of(ONE_AXIS, ()), 0)
        self.assertEqual(length_of(ONE_AXIS, jet(("u", 0), ("v", 0))), 1)
        self.assertEqual(length_of(ONE_AXIS, ONE), 2)
        self.assertEqual(length_of(UV, TWO), 2)
        self.assertEqual(length_of(ranking=YX, jet=TWO), 2)

    def test_all_lengths(self):
        chance = random.Random(512)
        for ranking in (UV, YX, NAMES, YX_NAMES, ONE_AXIS):
            for length in range(9):
                one = some_jet(chance, ranking, length)
                self.assertEqual(length_of(ranking, one), length)

    def refused(self, ranking, thing, place):
        for call in (
            lambda: length_of(ranking, thing),
            lambda: cut_jet(ranking, thing, Odd()),
            lambda: added_jets(ranking, thing, Odd()),
            lambda: added_jets(ranking, (), thing),
            lambda: scaled_jet(ranking, thing, Odd()),
            lambda: data_of(ranking, (), thing),
            lambda: taylor_of(ranking, p("u"), thing),
            lambda: solves(ranking, p("u"), thing),
            lambda: first_fault(ranking, (p("u"),), thing),
        ):
            with self.assertRaises(BadJet) as caught:
                call()
            self.assertEqual(caught.exception.place, place)

    def test_no_tuple(self):
        for thing in NO_JETS:
            self.refused(UV, thing, None)

    def test_each_pair(self):
        for at, (derivative, number) in enumerate(TWO):
            wrong = [
                *things(),
                [derivative, number],
                (derivative,),
                (derivative, number, number),
                (derivative, 1),
                (derivative, (2, 2)),
                (derivative, [1, 1]),
                (list(derivative), number),
                (derivative, Odd()),
                (Odd(), number),
                (Yes(), Yes()),
                (d("w"), number),
                ((derivative[0], 8, 0), number),
                ((derivative[0], 4, 4), number),
            ]
            if at:
                wrong += [TWO[at - 1], (TWO[at - 1][0], (99, 1)), TWO[0]]
            for thing in wrong:
                self.refused(UV, TWO[:at] + (thing,) + TWO[at + 1 :], at)
                self.refused(UV, TWO[:at] + (thing, Odd()), at)

    def test_pairs_that_are_not_so_are_told_ahead_of_those_that_are_not_due(self):
        self.refused(UV, (TWO[0], TWO[2], TWO[1]), 2)
        self.refused(UV, (TWO[1], TWO[2], None), 2)
        self.refused(UV, jet(("u.x", 1), ("u", 1)), 1)
        self.refused(UV, jet(("u.x", 1), ("w", 1)), 1)

    def test_those_that_lack(self):
        for at in range(5):
            # What stands behind the one that lacks isn't due there.
            self.refused(UV, TWO[:at] + TWO[at + 1 :], at)
        self.refused(UV, TWO[:5], 5)
        self.refused(UV, TWO[:2], 2)
        self.refused(UV, TWO[:1], 1)
        self.refused(ONE_AXIS, ONE[:1], 1)
        self.refused(ONE_AXIS, ONE[:3], 3)
        self.refused(UV, jet(("v", 1)), 0)
        self.refused(ONE_AXIS, jet(("u", 1), ("u.xx", 1)), 1)

    def test_one_too_many(self):
        # By one pair of ORDER 2 the LENGTH is 3, and others are due.
        self.refused(ONE_AXIS, jet(("u", 1), ("u.x", 2), ("v", 3), ("v.x", 4), ("v.xx", 5)), 2)
        self.refused(ONE_AXIS, jet(("u", 1), ("u.x", 2), ("u.xx", 5), ("v", 3), ("v.x", 4)), 5)
        self.refused(UV, TWO + jet(("v.xx", 1)), 2)

    def test_orders(self):
        chance = random.Random(513)
        eight = some_jet(chance, ONE_AXIS, 8)
        self.assertEqual(length_of(ONE_AXIS, eight), 8)
        self.refused(ONE_AXIS, eight[:8] + ((("u", 8, 0), (0, 1)),) + eight[8:], 8)
        self.refused(ONE_AXIS, eight + ((("v", 8, 0), (0, 1)),), 16)
        self.refused(UV, ((("u", 10**30, 0), (0, 1)),), 0)

    def test_one_axis(self):
        self.refused(ONE_AXIS, ((d("u"), (1, 1)), (d("u.y"), (1, 1))), 1)
        self.refused(ONE_AXIS, TWO, 1)
        self.refused(UV, ONE, 1)

    def test_refused_in_order(self):
        refused_in_order(self, length_of, (UV, TWO), ((BadRanking, NO_RANKINGS), (BadJet, NO_JETS)))


class Cuts(unittest.TestCase):
    def test_by_hand(self):
        self.assertEqual(cut_jet(ONE_AXIS, ONE, 1), jet(("u", 1), ("v", 3)))
        self.assertEqual(cut_jet(UV, TWO, 1), jet(("u", 1), ("v", 4)))
        self.assertEqual(cut_jet(UV, TWO, 2), TWO)
        self.assertEqual(cut_jet(UV, TWO, 0), ())
        self.assertEqual(cut_jet(ranking=UV, jet=(), length=0), ())

    def test_all_lengths(self):
        chance = random.Random(514)
        for ranking in (UV, NAMES, ONE_AXIS):
            one = some_jet(chance, ranking, 6)
            for length in range(7):
                told = cut_jet(ranking, one, length)
                self.assertEqual(told, tuple(pair for pair in one if pair[0][1] + pair[0][2] < length))
                self.assertEqual(length_of(ranking, told), length)

    def test_refused(self):
        bad = ((BadRanking, NO_RANKINGS), (BadJet, NO_JETS), (OutOfPlace, NO_LENGTHS))
        refused_in_order(self, cut_jet, (UV, TWO, 1), bad)
        for length in (3, 4, 8):
            with self.assertRaises(OutOfPlace):
                cut_jet(UV, TWO, length)
        with self.assertRaises(OutOfPlace):
            cut_jet(UV, (), 1)


class Sums(unittest.TestCase):
    def test_by_hand(self):
        told = added_jets(ONE_AXIS, ONE, jet(("u", -1), ("u.x", 5), ("v", 0), ("v.x", -7)))
        self.assertEqual(told, jet(("u", 0), ("u.x", 7), ("v", 3), ("v.x", -3)))
        self.assertEqual(added_jets(ranking=UV, jet=(), other=()), ())
        self.assertEqual(scaled_jet(ONE_AXIS, ONE, (-2, 1)), jet(("u", -2), ("u.x", -4), ("v", -6), ("v.x", -8)))
        self.assertEqual(scaled_jet(ranking=ONE_AXIS, jet=ONE, by=(0, 1)), jet(("u", 0), ("u.x", 0), ("v", 0), ("v.x", 0)))
        self.assertEqual(scaled_jet(ONE_AXIS, ONE, (1, 2))[0], (d("u"), (1, 2)))

    def test_number_by_number(self):
        chance = random.Random(515)
        for ranking in (UV, NAMES, ONE_AXIS):
            for length in range(6):
                one, other = (some_jet(chance, ranking, length) for _ in range(2))
                told = dict(added_jets(ranking, one, other))
                self.assertEqual(list(told), [key for key, _ in one])
                for key in told:
                    self.assertEqual(told[key], sum_of(dict(one)[key], dict(other)[key]))
                told = scaled_jet(ranking, one, (3, 5))
                self.assertEqual(told, tuple((key, product(number, (3, 5))) for key, number in one))

    def test_refused(self):
        bad = ((BadRanking, NO_RANKINGS), (BadJet, NO_JETS), (BadJet, NO_JETS))
        refused_in_order(self, added_jets, (UV, TWO, TWO), bad)
        for one, other in ((TWO, ()), ((), TWO), (TWO, jet(("u", 1), ("v", 1)))):
            with self.assertRaises(OutOfPlace):
                added_jets(UV, one, other)
        bad = ((BadRanking, NO_RANKINGS), (BadJet, NO_JETS), (OutOfPlace, NO_FRACTIONS))
        refused_in_order(self, scaled_jet, (UV, TWO, (1, 2)), bad)
        with self.assertRaises(BadJet) as caught:
            added_jets(UV, (), TWO[:5])
        self.assertEqual(caught.exception.place, 5)

    def test_what_is_handed_in_is_as_it_was(self):
        one = jet(("u", 1), ("v", 2))
        added_jets(ONE_AXIS, one, one)
        scaled_jet(ONE_AXIS, one, (2, 1))
        self.assertEqual(one, jet(("u", 1), ("v", 2)))


class Data(unittest.TestCase):
    def test_by_hand(self):
        self.assertEqual(data_of(UV, chain("v = 0", "u.x = u"), TWO), jet(("u", 1), ("u.y", 2)))
        self.assertEqual(data_of(UV, (), TWO), TWO)
        self.assertEqual(data_of(*SWING, ONE), jet(("u", 1), ("v", 3)))
        self.assertEqual(data_of(ONE_AXIS, (), jet(("u", 0), ("u.x", 2), ("v", 3), ("v.x", 0))), jet(("u.x", 2), ("v", 3)))
        self.assertEqual(data_of(ranking=UV, chain=chain("v = 0", "u = 0"), jet=TWO), ())
        self.assertEqual(data_of(*HEAT, ()), ())

    def test_of_jets_of_data(self):
        chance = random.Random(516)
        for ranking, pairs in ALL:
            for _ in range(4):
                some = some_data(chance, ranking, pairs, 2)
                told = data_of(ranking, pairs, jet_of(ranking, pairs, data=some, length=3))
                self.assertEqual(told, tuple(pair for pair in some if pair[1] != (0, 1)))
                one = some_jet(chance, ranking, 3)
                due = [pair for pair in one if pair[1] != (0, 1) and principal_by(ranking, pairs, pair[0]) is None]
                self.assertEqual(data_of(ranking, pairs, one), tuple(due))
                self.assertEqual(len(all_to(ranking, 2)), len(one))

    def test_refused(self):
        bad = ((BadRanking, NO_RANKINGS), (BadChain, NO_CHAINS_OF_UV), (BadJet, NO_JETS))
        refused_in_order(self, data_of, (*HEAT, TWO), bad)


if __name__ == "__main__":
    unittest.main()
