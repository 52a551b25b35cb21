"""rankedchains.freedoms: FREE DERIVATIVES [16], and what is NEEDED [43]."""

import random
import unittest

from rankedchains.chains import principal_by
from rankedchains.errors import BadChain, BadPaper, BadRanking, OutOfPlace, TooGreat
from rankedchains.freedoms import check_needs, free_to, is_free, need_paper, needed, principal_to
from rankedchains.normal import normal
from rankedchains.polynomials import derivatives_in, of_derivative, raised
from rankedchains.rankings import all_to, in_rank
from systems import (
    ALL,
    BY_NAMES,
    EMPTY,
    HEAT,
    NAMES,
    ONE_AXIS,
    OPEN,
    SQUARES,
    SWING,
    UV,
    WAVE,
    YX,
    YX_NAMES,
    normal_by_hand,
    some_chain,
    sum_of_terms,
)
from things import (
    NO_CHAINS_OF_UV,
    NO_DERIVATIVES,
    NO_RANKINGS,
    Odd,
    Yes,
    chain,
    d,
    p,
    refused_in_order,
    things,
)

NAMES_ONE_AXIS = ("names", ("u", "v", "w"), ("x",))
NO_WHOLE = [thing for thing in things() if isinstance(thing, bool) or not isinstance(thing, int)]
NO_ORDERS = NO_WHOLE + [-1, 13, 10**30]
NO_LENGTHS = NO_WHOLE + [-1, 9, 10**30]


def ds(*texts):
    return tuple(d(text) for text in texts)


def needed_by_hand(ranking, pairs, length):
    found = []
    for one in all_to(ranking, 12):
        if one[1] + one[2] < length:
            found.extend(derivatives_in(normal_by_hand(ranking, pairs, of_derivative(one))))
    return tuple(in_rank(ranking, found))


class Free(unittest.TestCase):
    def test_by_hand(self):
        for (ranking, pairs), text, due in (
            (HEAT, "u", True),
            (HEAT, "u.xyyyyyyyyyyyyyyyyyyyyyyyyyyy", True),
            (HEAT, "u.xx", False),
            (HEAT, "u.xxxyyy", False),
            (HEAT, "v.xx", True),
            (SWING, "u", True),
            (SWING, "u.xx", False),
            (EMPTY, "u.xy", True),
            (BY_NAMES, "w.xyyyy", True),
            (BY_NAMES, "v.xxy", False),
        ):
            self.assertIs(is_free(ranking, pairs, d(text)), due, text)
        ranking, pairs = HEAT
        self.assertIs(is_free(ranking=ranking, chain=pairs, derivative=d("u")), True)
        self.assertEqual(free_to(ranking=ranking, chain=pairs, order=1), ds("v", "u", "v.y", "u.y", "v.x", "u.x"))
        self.assertEqual(principal_to(ranking=ranking, chain=pairs, order=3), ds("u.xx", "u.xxy", "u.xxx"))

    def test_lists_by_hand(self):
        self.assertEqual(free_to(*SWING, 3), ds("v", "u"))
        self.assertEqual(principal_to(*SWING, 2), ds("v.x", "u.x", "v.xx", "u.xx"))
        self.assertEqual(free_to(*SQUARES, 3), ds("v", "u", "v.x", "u.x", "v.xx"))
        self.assertEqual(free_to(*WAVE, 1), ds("v", "u", "u.x", "v.y", "u.y"))
        self.assertEqual(free_to(NAMES, chain("w = 0", "v.y = 0", "v.x = 0"), 1), ds("v", "u", "u.y", "u.x"))
        self.assertEqual(free_to(*EMPTY, 0), ds("v", "u"))
        self.assertEqual(principal_to(*EMPTY, 12), ())
        self.assertEqual(free_to(UV, chain("v = 0", "u = 0"), 12), ())

    def test_both_sorts_and_axes(self):
        chance = random.Random(401)
        for ranking in (UV, YX, NAMES, YX_NAMES, ONE_AXIS, NAMES_ONE_AXIS):
            for _ in range(10):
                pairs = some_chain(chance, ranking, 4, 4)
                for order in (0, 1, 3, 12):
                    every = all_to(ranking, order)
                    free, principal = free_to(ranking, pairs, order), principal_to(ranking, pairs, order)
                    self.assertEqual((type(free), type(principal)), (tuple, tuple))
                    self.assertEqual(free, tuple(one for one in every if principal_by(ranking, pairs, one) is None))
                    self.assertEqual(list(principal), [one for one in every if one not in free])
                    for one in every[:12]:
                        self.assertIs(is_free(ranking, pairs, one), one in free)

    def test_refused(self):
        bad = ((BadRanking, NO_RANKINGS), (BadChain, NO_CHAINS_OF_UV))
        refused_in_order(self, is_free, (*HEAT, d("u")), (*bad, (OutOfPlace, NO_DERIVATIVES)))
        for call in (free_to, principal_to):
            refused_in_order(self, call, (*HEAT, 3), (*bad, (OutOfPlace, NO_ORDERS)))
        with self.assertRaises(OutOfPlace):
            is_free(*SWING, d("u.y"))


class Needed(unittest.TestCase):
    def test_by_hand(self):
        for (ranking, pairs), length, due in (
            (HEAT, 0, ()),
            (HEAT, 1, ("v", "u")),
            (HEAT, 3, ("v", "u", "v.y", "u.y", "v.x", "u.x", "v.yy", "u.yy", "v.xy", "u.xy", "v.xx")),
            (SWING, 0, ()),
            (SWING, 1, ("v", "u")),
            (SWING, 8, ("v", "u")),
            (OPEN, 2, ("v", "u", "v.y", "v.x")),
            ((ONE_AXIS, chain("u = v")), 1, ("v",)),
            ((ONE_AXIS, chain("v = 3", "u = 0")), 5, ()),
            (EMPTY, 1, ("v", "u")),
            ((NAMES, chain("u = v.xxx + w.yyyyyy")), 1, ("w", "w.yyyyyy", "v", "v.xxx")),
        ):
            self.assertEqual(needed(ranking, pairs, length), ds(*due))
            self.assertEqual([one for one, _ in need_paper(ranking, pairs, length)], list(ds(*due)))
        ranking, pairs = HEAT
        self.assertEqual(needed(ranking=ranking, chain=pairs, length=1), ds("v", "u"))
        paper = need_paper(ranking=ranking, chain=pairs, length=1)
        self.assertEqual(paper, ((d("v"), d("v")), (d("u"), d("u"))))
        self.assertEqual(check_needs(ranking=ranking, chain=pairs, length=1, paper=paper), ds("v", "u"))

    def test_by_names_some_are_of_a_higher_order(self):
        pairs = chain("u = v.xxx + w.yyyyyy")
        paper = need_paper(NAMES, pairs, 1)
        self.assertEqual(
            paper, ((d("w"), d("w")), (d("w.yyyyyy"), d("u")), (d("v"), d("v")), (d("v.xxx"), d("u")))
        )
        self.assertEqual(check_needs(NAMES, pairs, 1, paper), tuple(one for one, _ in paper))

    def test_against_the_document(self):
        chance = random.Random(431)
        some = [*ALL, *((ranking, some_chain(chance, ranking)) for ranking in (UV, YX, YX_NAMES, NAMES_ONE_AXIS) * 3)]
        for ranking, pairs in some:
            for length in range(5):
                told = needed(ranking, pairs, length)
                self.assertEqual(told, needed_by_hand(ranking, pairs, length))
                paper = need_paper(ranking, pairs, length)
                self.assertEqual(tuple(free for free, _ in paper), told)
                for free, derivative in paper:
                    self.assertLess(derivative[1] + derivative[2], length)
                    self.assertIn(free, derivatives_in(normal(ranking, pairs, of_derivative(derivative))))
                self.assertEqual(check_needs(ranking, pairs, length, paper), told)

    def test_all_lengths(self):
        for ranking, pairs in (HEAT, WAVE, SWING, OPEN, EMPTY):
            for length in range(9):
                told = needed(ranking, pairs, length)
                self.assertEqual(told, needed_by_hand(ranking, pairs, length))
                self.assertEqual(check_needs(ranking, pairs, length, need_paper(ranking, pairs, length)), told)

    def test_lengths_refused(self):
        for length in NO_LENGTHS:
            for call in (needed, need_paper, lambda *rest: check_needs(*rest, Odd())):
                with self.assertRaises(OutOfPlace):
                    call(*HEAT, length)

    def test_too_great(self):
        pairs = chain("u.x = u^3")
        self.assertEqual(needed(ONE_AXIS, pairs, 8)[:2], ds("v", "u"))
        pairs = chain("u.x = u^4")
        self.assertEqual(needed(ONE_AXIS, pairs, 6)[:2], ds("v", "u"))
        for call in (needed, need_paper, lambda *rest: check_needs(*rest, ())):
            with self.assertRaises(TooGreat):
                call(ONE_AXIS, pairs, 7)
        with self.assertRaises(TooGreat):
            needed(NAMES, ((d("v"), sum_of_terms("w", 121)),), 1)
        self.assertEqual(needed(NAMES, ((d("v"), raised(p("w"), 17)),), 0), ())

    def test_refused_in_order(self):
        bad = ((BadRanking, NO_RANKINGS), (BadChain, NO_CHAINS_OF_UV), (OutOfPlace, NO_LENGTHS))
        for call in (needed, need_paper):
            refused_in_order(self, call, (*HEAT, 3), bad)
        papers = (BadPaper, things())
        refused_in_order(self, check_needs, (*HEAT, 3, need_paper(*HEAT, 3)), (*bad, papers))


class Papers(unittest.TestCase):
    def refused(self, ranking, pairs, length, paper, place):
        with self.assertRaises(BadPaper) as caught:
            check_needs(ranking, pairs, length, paper)
        self.assertEqual(caught.exception.place, place)

    def test_papers_made_otherwise(self):
        due = ds("v", "u")
        for one, other in (("v", "u"), ("u.x", "u"), ("v.xx", "v.x"), ("u.xxx", "u.xx"), ("u.x", "v.x")):
            self.assertEqual(check_needs(*SWING, 4, ((d("v"), d(one)), (d("u"), d(other)))), due)
        # v is in the NORMAL FORM of u.xx, 2*u^3 - .., as its own as well.
        pairs = chain("u.x = u^2 + v*u")
        told = check_needs(ONE_AXIS, pairs, 2, ((d("v"), d("u.x")), (d("u"), d("u.x")), (d("v.x"), d("v.x"))))
        self.assertEqual(told, ds("v", "u", "v.x"))

    def test_no_tuple(self):
        good = need_paper(*HEAT, 2)
        for thing in (*things(), list(good), {}, iter(())):
            if not isinstance(thing, tuple):
                self.refused(*HEAT, 2, thing, None)
                self.refused(*HEAT, 0, thing, None)

    def test_each_pair(self):
        good = need_paper(*HEAT, 2)
        self.assertEqual(len(good), 6)
        for at, (free, derivative) in enumerate(good):
            for thing in (
                *things(),
                [free, derivative],
                (free,),
                (free, derivative, derivative),
                (free, None),
                (None, derivative),
                (free, Odd()),
                (Odd(), derivative),
                (Yes(), Yes()),
                (free, list(derivative)),
                (list(free), derivative),
                (free, d("w")),
                (free, d("u.xx")),
                (free, d("v.yy")),
                (free, d("v") if free != d("v") else d("u")),
                (good[at - 1][0], good[at - 1][1]),
                (good[at - 1][0], derivative),
                good[(at + 1) % 6],
            ):
                self.refused(*HEAT, 2, good[:at] + (thing,) + good[at + 1 :], at)
                self.refused(*HEAT, 2, good[:at] + (thing,), at)
                self.refused(*HEAT, 2, good[:at] + (thing, Odd()), at)

    def test_the_order_is_below_the_length(self):
        self.assertEqual(check_needs(*SWING, 2, ((d("v"), d("u.x")), (d("u"), d("v.x")))), ds("v", "u"))
        self.refused(*SWING, 1, ((d("v"), d("u.x")), (d("u"), d("v.x"))), 0)
        self.refused(*SWING, 1, ((d("v"), d("v")), (d("u"), d("v.x"))), 1)
        pairs = chain("u.y = v", "u.x = v.y")
        self.assertEqual(needed(UV, pairs, 2), ds("v", "u", "v.y", "v.x"))
        good = ((d("v"), d("u.y")), (d("u"), d("u")), (d("v.y"), d("u.x")), (d("v.x"), d("v.x")))
        self.assertEqual(check_needs(UV, pairs, 2, good), ds("v", "u", "v.y", "v.x"))
        for text in ("u.yy", "u.xx", "u.xy"):
            self.refused(UV, pairs, 2, (*good[:2], (d("v.y"), d(text)), good[3]), 2)

    def test_as_many_as_are_needed(self):
        good = need_paper(*HEAT, 2)
        for many in range(6):
            self.refused(*HEAT, 2, good[:many], many)
        for more in (good[:1], (good[-1],), (None,), ((d("v.yy"), d("v.yy")),), (Odd(),)):
            self.refused(*HEAT, 2, good + more, 6)
        self.refused(*HEAT, 0, (None,), 0)
        self.assertEqual(check_needs(*HEAT, 0, ()), ())

    def test_what_isnt_needed_isnt_asked(self):
        # What a paper tells is asked below the LENGTH alone.
        pairs = chain("u.x = u^4")
        self.refused(ONE_AXIS, pairs, 6, ((d("v"), d("v")), (d("u"), ("u", 9, 0))), 1)


if __name__ == "__main__":
    unittest.main()
