"""rankedchains.completing: promise [44]."""

import random
import unittest

from rankedchains.completing import completed, gaps, has_gaps
from rankedchains.cones import cone_has, principal_cones
from rankedchains.conditions import is_closed
from rankedchains.errors import BadChain, BadRanking, TooGreat
from rankedchains.polynomials import derived, less, of_derivative
from systems import (
    ALL,
    BY_NAMES,
    EMPTY,
    HEAT,
    NAMES,
    ONE_AXIS,
    OPEN,
    SQUARES,
    SWING,
    UV,
    YX,
    YX_NAMES,
    normal_by_hand,
    some_chain,
    some_systems,
    sum_of_terms,
)
from things import NO_CHAINS_OF_UV, NO_RANKINGS, chain, d, p, refused_in_order

U = ("total", ("u",), ("x", "y"))
STAIRS = (U, chain("u.yy = 0", "u.xxy = u", "u.xxxx = u.x"))


def completed_by_hand(ranking, pairs):
    return tuple(
        (one, ways, normal_by_hand(ranking, pairs, of_derivative(one))) for one, ways in principal_cones(ranking, pairs)
    )


def gaps_by_hand(ranking, pairs):
    rows = completed_by_hand(ranking, pairs)
    told = []
    for one, ways, form in rows:
        for axis in ("x", "y"):
            if axis not in ranking[2] or axis in ways:
                continue
            above = (one[0], one[1] + (axis == "x"), one[2] + (axis == "y"))
            (other, other_form), = [(row[0], row[2]) for row in rows if cone_has(ranking, row[:2], above)]
            by_it = derived(derived(other_form, "y", many=above[2] - other[2]), "x", many=above[1] - other[1])
            told.append((one, axis, normal_by_hand(ranking, pairs, less(derived(form, axis), by_it))))
    return tuple(told)


class Completed(unittest.TestCase):
    def test_by_hand(self):
        both = ("x", "y")
        for (ranking, pairs), due in (
            (EMPTY, ()),
            (HEAT, ((d("u.xx"), both, p("u.y")),)),
            (SWING, ((d("u.x"), ("x",), p("v")), (d("v.x"), ("x",), p("-u")))),
            (OPEN, ((d("u.y"), ("y",), p("u")), (d("u.x"), both, p("u^2")))),
            (
                STAIRS,
                (
                    (d("u.yy"), ("y",), ()),
                    (d("u.xyy"), ("y",), ()),
                    (d("u.xxy"), ("y",), p("u")),
                    (d("u.xxxy"), ("y",), p("u.x")),
                    (d("u.xxxx"), both, p("u.x")),
                ),
            ),
        ):
            self.assertEqual(completed(ranking, pairs), due)
        ranking, pairs = HEAT
        self.assertEqual(completed(ranking=ranking, chain=pairs), ((d("u.xx"), both, p("u.y")),))

    def test_each_leader_is_one(self):
        chance = random.Random(441)
        for ranking in (UV, YX, NAMES, YX_NAMES, ONE_AXIS, U):
            for _ in range(20):
                pairs = some_chain(chance, ranking, 5, 3)
                told = completed(ranking, pairs)
                self.assertIs(type(told), tuple)
                self.assertEqual(told, completed_by_hand(ranking, pairs))
                self.assertEqual(tuple((one, ways) for one, ways, _ in told), principal_cones(ranking, pairs))
                forms = {one: form for one, _, form in told}
                for leader, right in pairs:
                    self.assertEqual(forms[leader], right)


class Gaps(unittest.TestCase):
    def test_by_hand(self):
        for (ranking, pairs), due in (
            (EMPTY, ()),
            (HEAT, ()),
            (OPEN, ((d("u.y"), "x", p("-u^2")),)),
            ((UV, chain("u.y = 2*u", "u.x = u")), ((d("u.y"), "x", ()),)),
            ((UV, chain("u.y = v", "u.x = 0")), ((d("u.y"), "x", p("v.x")),)),
            ((YX, chain("u.x = v", "u.y = 0")), ((d("u.y"), "x", p("-v.y")),)),
            (
                STAIRS,
                (
                    (d("u.yy"), "x", ()),
                    (d("u.xyy"), "x", p("-u.y")),
                    (d("u.xxy"), "x", ()),
                    (d("u.xxxy"), "x", p("u.xx - u.xy")),
                ),
            ),
        ):
            told = gaps(ranking, pairs)
            self.assertIs(type(told), tuple)
            self.assertEqual(told, due)
            self.assertIs(has_gaps(ranking, pairs), any(gap != () for _, _, gap in due))
        ranking, pairs = OPEN
        self.assertEqual(gaps(ranking=ranking, chain=pairs), ((d("u.y"), "x", p("-u^2")),))
        self.assertIs(has_gaps(ranking=ranking, chain=pairs), True)

    def test_against_the_document(self):
        chance = random.Random(442)
        found = []
        for ranking in (UV, YX, NAMES, YX_NAMES, U):
            for _ in range(40):
                pairs = some_chain(chance, ranking, 5, 3)
                told = gaps(ranking, pairs)
                self.assertEqual(told, gaps_by_hand(ranking, pairs))
                self.assertIs(has_gaps(ranking, pairs), any(gap != () for _, _, gap in told))
                self.assertIs(has_gaps(ranking, pairs), not is_closed(ranking, pairs))
                found.append(has_gaps(ranking, pairs))
        self.assertGreater(found.count(True), 20)
        self.assertGreater(found.count(False), 20)

    def test_alike_with_closed(self):
        for ranking, pairs in ALL + (STAIRS,):
            self.assertIs(has_gaps(ranking, pairs), not is_closed(ranking, pairs))
        for ranking, _, told in some_systems(443, 80):
            if told[0] == "closed":
                self.assertIs(has_gaps(ranking, told[1]), False)
                self.assertTrue(all(gap == () for _, _, gap in gaps(ranking, told[1])))
            elif told[0] == "knot":
                self.assertIs(has_gaps(ranking, told[1]), not is_closed(ranking, told[1]))

    def test_one_axis(self):
        chance = random.Random(444)
        for ranking in (ONE_AXIS, ("names", ("u", "v", "w"), ("x",))):
            for _ in range(20):
                pairs = some_chain(chance, ranking)
                self.assertEqual(gaps(ranking, pairs), ())
                self.assertIs(has_gaps(ranking, pairs), False)
        self.assertEqual(gaps(*SQUARES), ())
        self.assertEqual(gaps(*BY_NAMES), ())

    def test_too_great(self):
        pairs = chain("u.y = u^9", "u.x = u^9*u")
        self.assertEqual([form for _, _, form in completed(UV, pairs)], [p("u^9"), p("u^9*u")])
        for call in (gaps, has_gaps):
            with self.assertRaises(TooGreat):
                call(UV, pairs)
            # The first GAP isn't nought, the other one is TooGreat.
            with self.assertRaises(TooGreat):
                call(("total", ("v", "u"), ("x", "y")), chain("u.y = u^9", "v.y = v", "u.x = u^9*u", "v.x = v^2"))
        great = ((d("v"), sum_of_terms("w", 121)),)
        for call in (completed, gaps, has_gaps):
            with self.assertRaises(TooGreat):
                call(NAMES, great)
        self.assertEqual(len(completed(NAMES, ((d("v"), sum_of_terms("w", 120)),))), 1)


class Refused(unittest.TestCase):
    def test_in_order(self):
        for call in (completed, gaps, has_gaps):
            refused_in_order(self, call, HEAT, ((BadRanking, NO_RANKINGS), (BadChain, NO_CHAINS_OF_UV)))

    def test_what_is_handed_in_is_as_it_was(self):
        ranking, pairs = (UV, chain("u.y = u", "u.x = u^2"))
        completed(ranking, pairs)
        gaps(ranking, pairs)
        self.assertEqual((ranking, pairs), OPEN)


if __name__ == "__main__":
    unittest.main()
