"""rankedchains.elimination: what stands ALONE of the last NAMES [45]."""

import random
import unittest

from rankedchains.closing import closing
from rankedchains.conditions import is_closed
from rankedchains.elimination import alone
from rankedchains.errors import BadChain, BadRanking, OutOfPlace, TooGreat
from rankedchains.normal import goes_out, normal
from rankedchains.polynomials import derived, names_in, plus, scaled, times
from systems import ALL, BY_NAMES, HEAT, NAMES, YX_NAMES, polynomials_of, some_chain, some_led, some_polynomial
from things import NO_CHAINS_OF_UV, NO_RANKINGS, Odd, Yes, chain, p, refused_in_order, things

UV_NAMES = ("names", ("u", "v"), ("x", "y"))
ONE_NAMES = ("names", ("u", "v", "w"), ("x",))
NO_MANY = [thing for thing in things() if isinstance(thing, bool) or not isinstance(thing, int)] + [0, -1, 3, 10**30]


class Alone(unittest.TestCase):
    def test_by_hand(self):
        ranking, pairs = BY_NAMES
        for many, names, due in (
            (1, ("w",), chain("w.xx = w.y")),
            (2, ("v", "w"), chain("w.xx = w.y", "v.y = w^2")),
            (3, ("u", "v", "w"), pairs),
        ):
            self.assertEqual(alone(ranking, pairs, many), (("names", names, ("x", "y")), due))
        told = alone(ranking=ranking, chain=pairs, many=1)
        self.assertEqual(told, (("names", ("w",), ("x", "y")), chain("w.xx = w.y")))
        self.assertIs(type(told), tuple)

    def test_edges(self):
        self.assertEqual(alone(NAMES, (), 1), (("names", ("w",), ("x", "y")), ()))
        self.assertEqual(alone(NAMES, chain("u = w"), 2), (("names", ("v", "w"), ("x", "y")), ()))
        self.assertEqual(alone(YX_NAMES, chain("u.y = 1", "v = u"), 1), (("names", ("u",), ("y", "x")), chain("u.y = 1")))
        self.assertEqual(alone(("names", ("u",), ("x",)), chain("u.x = u"), 1), (("names", ("u",), ("x",)), chain("u.x = u")))
        self.assertEqual(alone(ONE_NAMES, chain("v = w.x"), 1), (("names", ("w",), ("x",)), ()))

    def test_names_go_one_by_one(self):
        # u.x = v, v.x = -u: v alone is v.xx = -v.
        ranking = ("names", ("u", "v"), ("x",))
        pairs = closing(ranking, polynomials_of("u.x - v", "v.x + u"))[1]
        self.assertEqual(alone(ranking, pairs, 1)[1], chain("v.xx = -v"))

    def test_each_number_of_names(self):
        chance = random.Random(451)
        for ranking in (NAMES, YX_NAMES, ONE_NAMES):
            for _ in range(15):
                pairs = some_chain(chance, ranking, 6)
                for many in range(1, len(ranking[1]) + 1):
                    own, told = alone(ranking, pairs, many)
                    self.assertEqual(own, ("names", ranking[1][-many:], ranking[2]))
                    self.assertEqual(told, tuple(pair for pair in pairs if pair[0][0] in own[1]))
                    for _, right in told:
                        self.assertLessEqual(set(names_in(right)), set(own[1]))
                    for _ in range(4):
                        one = some_polynomial(chance, own)
                        try:
                            due = normal(ranking, pairs, one)
                        except TooGreat:
                            continue
                        self.assertEqual(normal(*alone(ranking, pairs, many), one), due)

    def test_what_follows(self):
        chance = random.Random(452)
        out = stay = 0
        while min(out, stay) < 60:
            ranking = chance.choice((NAMES, YX_NAMES, ONE_NAMES))
            equations = tuple(some_led(chance, ranking, 2, 2, 1) for _ in range(chance.randint(2, 3)))
            try:
                told = closing(ranking, equations)
            except TooGreat:
                continue
            if told[0] != "closed":
                continue
            for many in range(1, len(ranking[1]) + 1):
                own, pairs = alone(ranking, told[1], many)
                self.assertIs(is_closed(own, pairs), True)
                for leader, right in pairs:
                    other = some_polynomial(chance, own, 1)
                    equation = plus((((((leader, 1),), (1, 1))),), scaled(right, (-1, 1)))
                    for one in (times(derived(equation, "x"), other), other):
                        gone = goes_out(own, pairs, one)
                        self.assertIs(goes_out(ranking, told[1], one), gone)
                        out, stay = out + gone, stay + (not gone)

    def test_refused(self):
        bad = ((BadRanking, NO_RANKINGS), (BadChain, NO_CHAINS_OF_UV), (OutOfPlace, NO_MANY + [Odd(), Yes()]))
        refused_in_order(self, alone, (UV_NAMES, chain("v.x = v"), 2), bad)
        for ranking, pairs in ALL:
            if ranking[0] == "total":
                for many in [1, len(ranking[1]), *NO_MANY]:
                    with self.assertRaises(OutOfPlace):
                        alone(ranking, pairs, many)
        for thing in NO_CHAINS_OF_UV:
            with self.assertRaises(BadChain):
                alone(HEAT[0], thing, 1)
        with self.assertRaises(BadChain) as caught:
            alone(UV_NAMES, chain("v = 0", "u = v"), 9)
        self.assertEqual(caught.exception.place, ("principal", 1))


if __name__ == "__main__":
    unittest.main()
