"""rankedchains.counts: promise [42]."""

import random
import unittest

from rankedchains.chains import equation_of
from rankedchains.closing import closing
from rankedchains.counts import counts, counts_later
from rankedchains.errors import BadChain, BadRanking, OutOfPlace, TooGreat
from rankedchains.freedoms import free_to
from systems import BY_NAMES, EMPTY, HEAT, ONE_AXIS, OPEN, SQUARES, SWING, UV, WAVE, YX, linear_to, some_chain
from things import NO_CHAINS_OF_UV, NO_RANKINGS, Odd, Yes, chain, refused_in_order, things

U = ("total", ("u",), ("x", "y"))
UVW = ("total", ("u", "v", "w"), ("x", "y"))
NO_MANY = [thing for thing in things() if isinstance(thing, bool) or not isinstance(thing, int)] + [-1, 14, 10**30]


def counts_by_hand(ranking, pairs):
    """All that can be counted: the ORDERS 0 to 12."""
    free = free_to(ranking, pairs, 12)
    return [len([one for one in free if one[1] + one[2] == order]) for order in range(13)]


class Counts(unittest.TestCase):
    def test_by_hand(self):
        for (ranking, pairs), due in (
            (HEAT, [2, 4, 5, 6, 7, 8]),
            (WAVE, [2, 3, 3, 3, 3, 3]),
            (SWING, [2, 0, 0, 0, 0, 0]),
            (SQUARES, [2, 2, 1, 0, 0, 0]),
            (OPEN, [2, 2, 3, 4, 5, 6]),
            (EMPTY, [2, 4, 6, 8, 10, 12]),
            ((ONE_AXIS, ()), [2, 2, 2, 2, 2, 2]),
            ((UVW, ()), [3, 6, 9, 12, 15, 18]),
            ((U, chain("u = 0")), [0, 0, 0, 0, 0, 0]),
            ((U, chain("u.xx = 0")), [1, 2, 2, 2, 2, 2]),
        ):
            told = counts(ranking, pairs)
            self.assertIs(type(told), list)
            self.assertEqual(told, due)
        ranking, pairs = HEAT
        self.assertEqual(counts(ranking=ranking, chain=pairs, many=3), [2, 4, 5])

    def test_as_many_as_are_asked(self):
        for ranking, pairs in (HEAT, WAVE, SWING, SQUARES, OPEN, EMPTY):
            due = counts_by_hand(ranking, pairs)
            for many in range(14):
                self.assertEqual(counts(ranking, pairs, many=many), due[:many])

    def test_against_the_document(self):
        chance = random.Random(421)
        for ranking in (UV, YX, U, UVW, ONE_AXIS):
            for _ in range(25):
                pairs = some_chain(chance, ranking, 6, 5)
                self.assertEqual(counts(ranking, pairs, many=13), counts_by_hand(ranking, pairs))

    def test_the_list_is_the_askers_own(self):
        counts(*HEAT).clear()
        self.assertEqual(len(counts(*HEAT)), 6)

    def test_many_by_its_name_alone(self):
        with self.assertRaises(TypeError):
            counts(*HEAT, 6)


class Later(unittest.TestCase):
    def test_by_hand(self):
        for (ranking, pairs), due in (
            (HEAT, (1, 1, 3)),
            (WAVE, (1, 0, 3)),
            (SWING, (1, 0, 0)),
            (SQUARES, (3, 0, 0)),
            (OPEN, (1, 1, 1)),
            (EMPTY, (0, 2, 2)),
            ((ONE_AXIS, ()), (0, 0, 2)),
            ((ONE_AXIS, chain("u.xx = 0")), (2, 0, 1)),
            ((ONE_AXIS, chain("v = 0", "u = 0")), (0, 0, 0)),
            ((UVW, chain("v = 0")), (0, 2, 2)),
            ((U, chain("u.y = 0")), (0, 0, 1)),
            ((U, chain("u.xy = 0")), (1, 0, 2)),
            ((U, chain("u.xxyy = 0")), (3, 0, 4)),
        ):
            self.assertEqual(counts_later(ranking, pairs), due)
        ranking, pairs = HEAT
        self.assertEqual(counts_later(ranking=ranking, chain=pairs), (1, 1, 3))

    def test_from_the_least(self):
        chance = random.Random(422)
        begins = []
        for ranking in (UV, YX, U, UVW, ONE_AXIS):
            for _ in range(25):
                pairs = some_chain(chance, ranking, 6, 5)
                begin, steep, flat = counts_later(ranking, pairs)
                due = counts_by_hand(ranking, pairs)
                for order in range(begin, 13):
                    self.assertEqual(due[order], steep * order + flat)
                if begin > 0:
                    self.assertNotEqual(due[begin - 1], steep * (begin - 1) + flat)
                begins.append(begin)
        self.assertGreater(len(set(begins)), 4)

    def test_far_orders(self):
        self.assertEqual(counts_later(ONE_AXIS, ((("u", 40, 0), ()),)), (40, 0, 1))
        self.assertEqual(counts(ONE_AXIS, ((("u", 40, 0), ()),), many=13), [2] * 13)
        self.assertEqual(counts_later(U, ((("u", 20, 15), ()),)), (34, 0, 35))


class One(unittest.TestCase):
    def test_closed_chains_of_one_system_have_the_same(self):
        chance = random.Random(423)
        looked = 0
        for axes in (("x", "y"), ("x",)):
            for _ in range(60):
                first = ("total", ("u", "v"), axes)
                equations = tuple(linear_to(chance, first, 2, 3) for _ in range(chance.randint(1, 3)))
                told = []
                for names in (("u", "v"), ("v", "u")):
                    for order in (axes, axes[::-1]):
                        ranking = ("total", names, order)
                        try:
                            word, pairs = closing(ranking, equations)
                        except TooGreat:
                            continue
                        self.assertEqual(word, "closed")
                        told.append((counts(ranking, pairs, many=10), counts_later(ranking, pairs)))
                looked += len(told)
                self.assertEqual(told, told[:1] * len(told))
        self.assertGreater(looked, 300)

    def test_of_nonlinear_ones(self):
        due = None
        for names in (("u", "v"), ("v", "u")):
            ranking = ("total", names, ("x", "y"))
            pairs = closing(ranking, tuple(equation_of(UV, pair) for pair in chain("u.y = 2*u^2", "u.x = u^2")))[1]
            due = due or counts(ranking, pairs)
            self.assertEqual(counts(ranking, pairs), due)


class Refused(unittest.TestCase):
    def test_in_order(self):
        by_names = ("names", ("u", "v"), ("x", "y"))
        for call in (counts, counts_later):
            refused_in_order(self, call, HEAT, ((BadRanking, NO_RANKINGS), (BadChain, NO_CHAINS_OF_UV)))
            with self.assertRaises(OutOfPlace):
                call(*BY_NAMES)
            with self.assertRaises(OutOfPlace):
                call(by_names, ())
            with self.assertRaises(BadChain):
                call(by_names, [])
        for many in (*NO_MANY, Odd(), Yes()):
            with self.assertRaises(OutOfPlace):
                counts(*HEAT, many=many)
            with self.assertRaises(OutOfPlace):
                counts(*BY_NAMES, many=many)
            with self.assertRaises(BadChain):
                counts(UV, None, many=many)
            with self.assertRaises(BadRanking):
                counts(None, None, many=many)


if __name__ == "__main__":
    unittest.main()
