"""rankedchains.rankings: promises [10] and [11]."""

import itertools
import random
import unittest

from rankedchains.errors import BadRanking, OutOfPlace
from rankedchains.rankings import (
    AXES_ALL,
    SORTS,
    all_to,
    holds_of,
    in_rank,
    is_of,
    is_ranking,
    need_ranking,
    rank_compared,
)
from things import NO_DERIVATIVES, NO_POLYNOMIALS, NO_RANKINGS, Odd, Yes, d, p, refused_in_order, things

NAMES_ALL = (("u",), ("u", "v"), ("v", "u"), ("w", "u", "v"))
RANKINGS = list(itertools.product(("total", "names"), NAMES_ALL, (("x",), ("x", "y"), ("y", "x"))))
UV = ("total", ("u", "v"), ("x", "y"))


def above(ranking, one, other):
    """Whether the first is above the second, word by word as [11] has it."""
    sort, names, axes = ranking
    if sort == "names" and one[0] != other[0]:
        return names.index(one[0]) < names.index(other[0])
    if one[1] + one[2] != other[1] + other[2]:
        return one[1] + one[2] > other[1] + other[2]
    place = {"x": 1, "y": 2}[axes[0]]
    if one[place] != other[place]:
        return one[place] > other[place]
    return names.index(one[0]) < names.index(other[0])


def some_of(ranking, most=3):
    _, names, axes = ranking
    return [
        (name, by_x, by_y)
        for name in names
        for by_x in range(most + 1)
        for by_y in range(most + 1 if "y" in axes else 1)
    ]


class Forms(unittest.TestCase):
    def test_values(self):
        self.assertEqual(SORTS, ("total", "names"))
        self.assertEqual(AXES_ALL, (("x",), ("x", "y"), ("y", "x")))

    def test_rankings(self):
        for ranking in RANKINGS:
            self.assertIs(is_ranking(ranking), True)
            self.assertIsNone(need_ranking(ranking))
        self.assertIs(is_ranking(thing=UV), True)
        self.assertIsNone(need_ranking(ranking=UV))

    def refused(self, thing, place):
        self.assertIs(is_ranking(thing), False)
        with self.assertRaises(BadRanking) as caught:
            need_ranking(thing)
        self.assertEqual(caught.exception.place, place)

    def test_no_tuple_of_three(self):
        for thing in (*things(), list(UV), UV[:2], UV + (1,), (UV,)):
            if not (type(thing) is tuple and len(thing) == 3):
                self.refused(thing, None)

    def test_the_sort(self):
        for sort in (*[thing for thing in things() if thing.__class__ is not str], "", "Total", "name", "total ", "u"):
            self.refused((sort, ("u",), ("x",)), "sort")
            self.refused((sort, (), ()), "sort")
        for thing in ((Odd(), Odd(), Odd()), (Yes(), Yes(), Yes()), ("u", 0, 0)):
            self.refused(thing, "sort")

    def test_the_names(self):
        for names in (
            *things(),
            "u",
            ["u"],
            ("u", "u"),
            ("u", "v", "u"),
            ("u", "v", "w", "a"),
            ("U",),
            ("u", ""),
            ("abcdefghi",),
            ("u\n",),
            ("u", 1),
            ("u", Yes()),
            ("u", Odd()),
            ("u", ["v"]),
            {"u": 1},
        ):
            self.refused(("total", names, ("x",)), "names")
            self.refused(("names", names, ("y",)), "names")

    def test_the_axes(self):
        for axes in (
            *things(),
            "x",
            "xy",
            ["x"],
            ("y",),
            ("x", "x"),
            ("y", "y"),
            ("x", "y", "x"),
            ("z",),
            ("x", "z"),
            ("x", Yes()),
            (Yes(),),
            ("x", Odd()),
            ("X",),
        ):
            self.refused(("total", ("u",), axes), "axes")

    def test_of(self):
        for thing in (d("u"), d("v.xy"), ("u", 0, 99)):
            self.assertIs(is_of(UV, thing), True)
        for thing in NO_DERIVATIVES:
            self.assertIs(is_of(UV, thing), False)
        one_axis = ("names", ("u", "v"), ("x",))
        self.assertIs(is_of(one_axis, d("u.xxx")), True)
        self.assertIs(is_of(one_axis, d("u.y")), False)
        self.assertIs(is_of(one_axis, d("v.xy")), False)
        self.assertIs(is_of(ranking=UV, thing=d("w")), False)
        for ranking in NO_RANKINGS:
            with self.assertRaises(BadRanking):
                is_of(ranking, d("u"))

    def test_holds_of(self):
        for thing in ((), p("1"), p("u*v.xy^2 - 1/2"), p("v.yyyyyy")):
            self.assertIs(holds_of(UV, thing), True)
        for thing in NO_POLYNOMIALS:
            self.assertIs(holds_of(UV, thing), False)
        one_axis = ("names", ("u", "v"), ("x",))
        self.assertIs(holds_of(one_axis, p("u.xxx*v + 1")), True)
        self.assertIs(holds_of(one_axis, p("u.xxx*v + u*v.y")), False)
        self.assertIs(holds_of(ranking=UV, thing=p("w")), False)
        for ranking in NO_RANKINGS:
            with self.assertRaises(BadRanking):
                holds_of(ranking, p("u"))


class Compared(unittest.TestCase):
    def test_all_by_the_document(self):
        for ranking in RANKINGS:
            for one, other in itertools.product(some_of(ranking, 2), repeat=2):
                due = 0 if one == other else (1 if above(ranking, one, other) else -1)
                self.assertEqual(rank_compared(ranking, one, other), due)

    def test_some_by_hand(self):
        for sort, names, axes, low, high in (
            ("total", ("u", "v"), ("x", "y"), "u.x", "v.yy"),
            ("total", ("u", "v"), ("x", "y"), "u.y", "v.x"),
            ("total", ("u", "v"), ("y", "x"), "u.x", "v.y"),
            ("total", ("u", "v"), ("x", "y"), "v.xy", "u.xy"),
            ("total", ("v", "u"), ("x", "y"), "u.xy", "v.xy"),
            ("total", ("u", "v"), ("x",), "v.x", "u.x"),
            ("names", ("u", "v"), ("x", "y"), "v.xxxx", "u"),
            ("names", ("v", "u"), ("x", "y"), "u.xxxx", "v"),
            ("names", ("u", "v"), ("x", "y"), "u.xy", "u.xx"),
            ("names", ("u", "v"), ("y", "x"), "u.xx", "u.xy"),
            ("names", ("u", "v"), ("y", "x"), "u.y", "u.xx"),
        ):
            ranking = (sort, names, axes)
            self.assertEqual(rank_compared(ranking, d(low), d(high)), -1)
            self.assertEqual(rank_compared(ranking, d(high), d(low)), 1)
            self.assertEqual(rank_compared(ranking, d(low), d(low)), 0)
        self.assertEqual(rank_compared(ranking=UV, one=d("u"), other=d("v")), 1)

    def test_derived_ones_stand_as_they_stood(self):
        for ranking in RANKINGS:
            for one, other in itertools.product(some_of(ranking, 2), repeat=2):
                for by_x, by_y in ((1, 0), (0, 1)):
                    if by_y and "y" not in ranking[2]:
                        continue
                    higher = [(name, i + by_x, j + by_y) for name, i, j in (one, other)]
                    self.assertEqual(rank_compared(ranking, *higher), rank_compared(ranking, one, other))
                    self.assertEqual(rank_compared(ranking, one, higher[0]), -1)

    def test_refused(self):
        refused_in_order(
            self,
            rank_compared,
            (UV, d("u"), d("v")),
            ((BadRanking, NO_RANKINGS), (OutOfPlace, NO_DERIVATIVES), (OutOfPlace, NO_DERIVATIVES)),
        )


class Lists(unittest.TestCase):
    def test_in_rank(self):
        chance = random.Random(7)
        for ranking in RANKINGS:
            every = some_of(ranking, 2)
            for _ in range(5):
                some = [chance.choice(every) for _ in range(9)]
                kept = list(some)
                for handed in (some, tuple(some)):
                    told = in_rank(ranking, handed)
                    self.assertIs(type(told), list)
                    self.assertEqual(sorted(told), sorted(set(some)))
                    for low, high in itertools.pairwise(told):
                        self.assertTrue(above(ranking, high, low))
                self.assertEqual(some, kept)
        self.assertEqual(in_rank(UV, []), [])
        self.assertEqual(in_rank(ranking=UV, some=(d("u"), d("v"), d("u"))), [d("v"), d("u")])

    def test_in_rank_refused(self):
        no_lists = [thing for thing in things() if type(thing) not in (list, tuple)]
        lists = [[1], [None], (0,), [d("u"), d("w")], (d("u"), "u"), [Odd()], [d("u"), list(d("u"))]]
        refused_in_order(
            self, in_rank, (UV, [d("u")]), ((BadRanking, NO_RANKINGS), (OutOfPlace, no_lists + lists + [{d("u"): 1}]))
        )

    def test_all_to(self):
        for ranking in RANKINGS:
            for order in (0, 1, 2, 5):
                told = all_to(ranking, order)
                self.assertIs(type(told), list)
                due = [one for one in some_of(ranking, order) if one[1] + one[2] <= order]
                self.assertEqual(sorted(told), sorted(due))
                for low, high in itertools.pairwise(told):
                    self.assertTrue(above(ranking, high, low))
        self.assertEqual(all_to(UV, 0), [d("v"), d("u")])
        self.assertEqual(len(all_to(UV, 12)), 2 * 91)
        self.assertEqual(len(all_to(("names", ("u", "v", "w"), ("x",)), order=12)), 39)
        self.assertEqual(all_to(ranking=("total", ("u",), ("y", "x")), order=1), [d("u"), d("u.x"), d("u.y")])

    def test_all_to_refused(self):
        no_orders = [thing for thing in things() if type(thing) is not int] + [-1, 13, 100, True, False, 10**30]
        refused_in_order(self, all_to, (UV, 3), ((BadRanking, NO_RANKINGS), (OutOfPlace, no_orders)))

    def test_what_is_told_is_the_askers_own(self):
        all_to(UV, 1).clear()
        self.assertEqual(len(all_to(UV, 1)), 6)
        some = [d("u"), d("v")]
        told = in_rank(UV, some)
        told.append(None)
        self.assertEqual(some, [d("u"), d("v")])
        self.assertEqual(in_rank(UV, some), [d("v"), d("u")])


if __name__ == "__main__":
    unittest.main()
