"""rankedchains.closing: promises [32] and [33]."""

import random
import unittest

from rankedchains.chains import equation_of
from rankedchains.closing import closed_chain, closing, joinings
from rankedchains.conditions import is_closed
from rankedchains.errors import BadPolynomial, BadRanking, TooGreat
from rankedchains.normal import goes_out, is_reduced
from rankedchains.polynomials import constant, derived, less, of_derivative, plus, raised, scaled, times
from rankedchains.spans import reduced_rows
from systems import (
    NAMES,
    ONE_AXIS,
    SQUARES,
    UV,
    WAVE,
    YX,
    YX_NAMES,
    closing_by_hand,
    high,
    linear_to,
    normal_by_hand,
    polynomials_of,
    some_led,
    some_polynomial,
    some_systems,
    sum_of_terms,
)
from things import NO_EQUATIONS, NO_RANKINGS, WITH_NONE, chain, d, p, refused_in_order

UVW = ("total", ("u", "v", "w"), ("x", "y"))
# By these 24 pairs join, and 25.
JOIN_24 = ("-u.yyyy + w", "u.xxy + v.xx - w.y", "-v.yyyy + w.xxx", "u.xxx - v.xyyy", "-u - u.xx + v.xx")
JOIN_25 = ("-u - u.xx + v.xxy", "-u.xxx", "-u.y - v.y - w.xxx", "-v.xy + v.xx + w.yyy")


def told_of(ranking, *texts):
    return closing(ranking, polynomials_of(*texts))


class Told(unittest.TestCase):
    def test_chains(self):
        for ranking, texts, due in (
            (UV, (), ()),
            (UV, ("0", "0"), ()),
            (UV, ("u.xx - u.y",), chain("u.xx = u.y")),
            (UV, ("2*u.y - u.xx",), chain("u.xx = 2*u.y")),
            (YX, ("2*u.y - u.xx",), chain("u.xx = 2*u.y")),
            (UV, ("u.x - v.y", "u.y + v.x"), chain("v.x = -u.y", "u.x = v.y")),
            (UV, ("u.xx - u.y", "u.y"), chain("u.y = 0", "u.xx = 0")),
            (UV, ("u.x - v", "u.y + v"), chain("u.y = -v", "v.x = -v.y", "u.x = v")),
            (UV, ("u.x - u^2", "u.y - 2*u^2"), chain("u.y = 2*u^2", "u.x = u^2")),
            (UV, ("u", "v"), chain("v = 0", "u = 0")),
            (UV, ("u - 1", "v.x - u"), chain("u = 1", "v.x = 1")),
            (ONE_AXIS, ("u.x - v", "v.x + u"), chain("v.x = -u", "u.x = v")),
            (ONE_AXIS, ("u.xxx", "u.xx - v"), chain("v.x = 0", "u.xx = v")),
            (NAMES, ("u.x - w^2", "u.y - v"), chain("v.x = 2*w*w.y", "u.y = v", "u.x = w^2")),
        ):
            self.assertEqual(told_of(ranking, *texts), ("closed", due), texts)
            self.assertEqual(closed_chain(ranking, polynomials_of(*texts)), due)
        self.assertEqual(closing(ranking=UV, equations=polynomials_of("u.x")), ("closed", chain("u.x = 0")))
        self.assertEqual(closed_chain(ranking=UV, equations=polynomials_of("u.x")), chain("u.x = 0"))
        self.assertEqual(joinings(ranking=UV, equations=polynomials_of("u.x")), [(d("u.x"), ())])

    def test_contradictions(self):
        for ranking, texts, joined in (
            (UV, ("1",), ()),
            (UV, ("-2/3", "u.x"), ()),
            (UV, ("u", "u - 1"), ()),
            (UV, ("u.x - 1", "u.y - u"), ("u.y", "u.x")),
            (UV, ("u - v", "u.x - v.x - 3"), ("u",)),
            (ONE_AXIS, ("u.x - 1", "u^2 - 2", "u"), ("u",)),
            (UV, ("v - u*u.x", "u", "v + 1"), ("v",)),
        ):
            equations = polynomials_of(*texts)
            self.assertEqual(closing(ranking, equations), ("contradiction",), texts)
            self.assertIsNone(closed_chain(ranking, equations))
            told = [leader for leader, _ in joinings(ranking, equations)]
            self.assertEqual(told, [leader for leader, _ in closing_by_hand(ranking, equations)[1]])
            if len(told) == len(joined):
                self.assertEqual(told, [d(one) for one in joined])

    def test_knots(self):
        for ranking, texts, pairs, pending in (
            (UV, ("u.x^2 - u",), (), ("u.x^2 - u",)),
            (UV, ("3*u.x*u.y - 1",), (), ("u.x*u.y - 1/3",)),
            (UV, ("u.x - u^2", "u.y - u"), ("u.y = u", "u.x = u^2"), ("u^2",)),
            (UV, ("v.x", "u*v.x + u^2", "u^2 - u.x^2"), ("v.x = 0",), ("u.x^2", "u^2")),
            (UV, ("u.x - v", "u.x^2 - v*u"), ("u.x = v",), ("v*u - v^2",)),
        ):
            told = told_of(ranking, *texts)
            self.assertEqual(told, ("knot", chain(*pairs), reduced_rows(ranking, polynomials_of(*pending))), texts)
            self.assertIsNone(closed_chain(ranking, polynomials_of(*texts)))

    def test_against_the_document(self):
        words = []
        for ranking, equations, told in some_systems(321, 250):
            self.assertEqual((told, joinings(ranking, equations)), closing_by_hand(ranking, equations))
            self.assertEqual(closed_chain(ranking, equations), told[1] if told[0] == "closed" else None)
            words.append(told[0])
        for word in ("closed", "knot", "contradiction"):
            self.assertGreater(words.count(word), 9)

    def test_one_axis_against_the_document(self):
        chance = random.Random(322)
        for _ in range(60):
            ranking = chance.choice((ONE_AXIS, ("names", ("u", "v", "w"), ("x",))))
            equations = tuple(some_led(chance, ranking, 3, 2, 2) for _ in range(chance.randint(1, 3)))
            try:
                told = closing(ranking, equations)
            except TooGreat:
                continue
            self.assertEqual((told, joinings(ranking, equations)), closing_by_hand(ranking, equations))

    def test_twelve(self):
        equations = tuple(high("u", order) for order in range(12, 0, -1))
        self.assertEqual(closing(ONE_AXIS, equations), ("closed", chain("u.x = 0")))
        self.assertEqual(joinings(ONE_AXIS, equations), [(d("u.x"), ())])


class Joinings(unittest.TestCase):
    def test_in_order(self):
        for ranking, texts, due in (
            (UV, (), []),
            (UV, ("u.x^2",), []),
            (UV, ("u.x - v", "u.y + v"), [("u.y", ()), ("u.x", ()), ("v.x", ())]),
            (UV, ("u.xx", "v.y - u", "u"), [("u", ()), ("v.y", ())]),
            (UV, ("u.y - v", "u.x - v^2"), [("u.y", ()), ("u.x", ()), ("v.x", ())]),
        ):
            told = joinings(ranking, polynomials_of(*texts))
            self.assertIs(type(told), list)
            self.assertEqual(told, [(d(leader), tuple(d(one) for one in left)) for leader, left in due])

    def test_those_that_leave(self):
        equations = polynomials_of("u.xy - u", "u.x - v.y", "v.xx")
        due = [("u.x", ()), ("v.yy", ()), ("v.xx", ()), ("v.xy", ()), ("v.y", ("v.yy", "v.xy")), ("u", ("u.x",))]
        self.assertEqual(joinings(UV, equations), [(d(one), tuple(d(other) for other in left)) for one, left in due])
        self.assertEqual(closed_chain(UV, equations), chain("u = 0", "v.y = 0", "v.xx = 0"))

    def test_what_left_is_pending(self):
        # u.xx = v joins ahead; u.x = w comes of a CONDITION, and leaves w.x = v behind.
        equations = polynomials_of("u.xx - v", "u.yy - w.x", "u.xyy - w.yy*u.x")
        told = closing(UVW, equations)
        self.assertEqual((told, joinings(UVW, equations)), closing_by_hand(UVW, equations))
        found = 0
        for ranking, some, ended in some_systems(323, 300):
            for _, left in joinings(ranking, some):
                found += len(left)
            if ended[0] == "closed":
                for one in some:
                    self.assertIs(goes_out(ranking, ended[1], one), True)
        self.assertGreater(found, 10)

    def test_the_list_is_the_askers_own(self):
        joinings(UV, polynomials_of("u.x")).clear()
        self.assertEqual(joinings(UV, polynomials_of("u.x")), [(d("u.x"), ())])


class Comes(unittest.TestCase):
    """What [33] says that it comes to."""

    def test_what_is_told_hangs_on_the_span(self):
        chance = random.Random(331)
        for ranking, equations, told in some_systems(332, 60):
            joined = joinings(ranking, equations)
            some = [scaled(one, chance.choice(((2, 1), (-1, 3), (5, 4)))) for one in equations]
            chance.shuffle(some)
            more = [plus(some[0], some[-1]), *some, some[0], ()]
            for others in (tuple(some), tuple(some + some[:2]), tuple(more[1:] + more[:1])):
                self.assertEqual(closing(ranking, others), told)
                self.assertEqual(joinings(ranking, others), joined)
            self.assertEqual(closing(ranking, reduced_rows(ranking, equations)), told)

    def test_closed_ones_are_closed(self):
        chance = random.Random(333)
        for ranking, equations, told in some_systems(334, 80):
            if told[0] != "closed":
                continue
            pairs = told[1]
            self.assertIs(is_closed(ranking, pairs), True)
            if len(pairs) <= 12:
                self.assertEqual(closing(ranking, tuple(equation_of(ranking, pair) for pair in pairs)), told)
            for one in equations:
                other = times(derived(one, "x"), some_polynomial(chance, ranking, 1, 2, 1))
                self.assertIs(goes_out(ranking, pairs, one), True)
                self.assertIs(goes_out(ranking, pairs, other), True)
                if "y" in ranking[2]:
                    self.assertIs(goes_out(ranking, pairs, derived(one, "y")), True)

    def test_what_follows_changes_nothing(self):
        for ranking, equations, told in some_systems(335, 60):
            if told[0] == "closed":
                more = times(derived(equations[0], "x"), plus(constant((3, 1)), of_derivative((ranking[1][0], 0, 0))))
                self.assertEqual(closing(ranking, (*equations, more)), told)

    def test_of_degree_one_there_are_no_knots(self):
        chance = random.Random(336)
        words = []
        for _ in range(150):
            ranking = chance.choice((UV, YX, NAMES, ONE_AXIS, YX_NAMES))
            some = [linear_to(chance, ranking, 2, 3) for _ in range(chance.randint(1, 4))]
            some[0] = plus(some[0], constant((chance.randint(0, 1), 1)))
            told = closing(ranking, tuple(some))
            words.append(told[0])
            self.assertEqual((told, joinings(ranking, tuple(some))), closing_by_hand(ranking, tuple(some)))
        self.assertNotIn("knot", words)
        self.assertIn("contradiction", words)

    def test_knots_are_such(self):
        found = 0
        for ranking, _, told in some_systems(337, 150):
            if told[0] == "knot":
                found += 1
                self.assertEqual(reduced_rows(ranking, told[2][:12]), told[2][:12])
                for row in told[2]:
                    self.assertIs(is_reduced(ranking, told[1], row), True)
                    self.assertEqual(normal_by_hand(ranking, told[1], row), row)
        self.assertGreater(found, 10)


class Bounds(unittest.TestCase):
    def stands(self, ranking, equations, word="closed"):
        told = closing(ranking, equations)
        self.assertEqual(told[0], word)
        self.assertEqual((told, joinings(ranking, equations)), closing_by_hand(ranking, equations))
        self.assertEqual(closed_chain(ranking, equations), told[1] if word == "closed" else None)

    def too_great(self, ranking, equations):
        for call in (closing, joinings, closed_chain):
            with self.assertRaises(TooGreat):
                call(ranking, equations)

    def test_terms_of_a_row(self):
        self.stands(NAMES, (plus(p("u"), sum_of_terms("v", 59)),))
        self.too_great(NAMES, (plus(p("u"), sum_of_terms("v", 60)),))
        self.stands(NAMES, (plus(p("u^2"), sum_of_terms("v", 59)),), "knot")
        self.too_great(NAMES, (plus(p("u^2"), sum_of_terms("v", 60)),))
        self.too_great(NAMES, (p("w"), plus(p("u^2"), sum_of_terms("v", 60))))
        # What has many terms only ahead of being REDUCED stands.
        self.stands(NAMES, (p("u"), plus(p("u"), sum_of_terms("v", 60))))

    def test_terms_of_a_row_in_its_normal_form(self):
        for many, due in (((6, 10), False), ((6, 11), True)):
            equations = (times(sum_of_terms("u", many[0]), p("v")), plus(p("v"), sum_of_terms("w", many[1])))
            if due:
                self.too_great(NAMES, equations)
            else:
                self.stands(NAMES, equations, "knot")

    def right_grows(self, many):
        """EQUATIONS by which the RIGHT of t has first 59 terms, then 58 and so many."""
        ranking = ("names", ("t", "u", "v"), ("x", "y"))
        powers = [(one, other) for one in range(9) for other in range(9) if 1 <= one + other <= 8]
        right = p("v.x")
        for one, other in powers[:29]:
            right = plus(right, times(raised(p("v.yyyy"), one), raised(p("v.yyyyy"), other)))
            right = plus(right, times(raised(p("v.yy"), one), raised(p("v.yyyyyy"), other)))
        self.assertEqual(len(right), 59)
        more = ()
        for power in range(1, many + 1):
            more = plus(more, raised(p("v"), power))
        return ranking, (less(p("t"), right), p("u.y - v"), less(p("u.x"), more))

    def test_terms_of_a_right(self):
        # u.x and u.y tell v.x: it gets as many terms as u.x has, and t has them, too.
        for many, due in ((2, False), (3, True)):
            ranking, equations = self.right_grows(many)
            if due:
                self.too_great(ranking, equations)
            else:
                self.stands(ranking, equations)
                told = closed_chain(ranking, equations)
                self.assertEqual(len(told[-1][1]), 60)

    def test_degrees_of_a_row(self):
        self.stands(UV, polynomials_of("u^8"), "knot")
        self.too_great(UV, polynomials_of("u^9"))
        self.stands(UV, polynomials_of("u.x - v^8"))
        self.too_great(UV, polynomials_of("u.x - v^9"))
        self.too_great(UV, polynomials_of("u.x^4*v.x^5 - u"))
        self.stands(NAMES, polynomials_of("v - w^2", "v^4 - u.x*w^7 - u"), "knot")
        self.too_great(NAMES, polynomials_of("v - w^2", "v^4*u - w^3*u"))

    def test_degrees_of_a_right(self):
        # t.xx joins with v.x in its RIGHT; v.x = 2*u*v joins later, of a CONDITION.
        ranking = ("total", ("t", "u", "v"), ("x", "y"))
        self.stands(ranking, polynomials_of("t.xx - v.x^4", "u.y - v", "u.x - u^2"))
        told = closed_chain(ranking, polynomials_of("t.xx - v.x^4", "u.y - v", "u.x - u^2"))
        self.assertEqual(told[-1], (d("t.xx"), p("16*u^4*v^4")))
        self.too_great(ranking, polynomials_of("t.xx - v.x^4*v", "u.y - v", "u.x - u^2"))

    def test_orders_of_a_row(self):
        self.stands(ONE_AXIS, (high("u", 12),))
        self.too_great(ONE_AXIS, (high("u", 13),))
        self.stands(UV, (of_derivative(("u", 6, 6)),))
        self.too_great(UV, (of_derivative(("u", 6, 7)),))
        self.stands(NAMES, (plus(p("u"), high("v", 12)),))
        self.too_great(NAMES, (plus(p("u"), high("v", 13)),))
        self.too_great(NAMES, (plus(p("u^2"), high("v", 13)),))
        # What has too great an ORDER is refused in the first round, whatever would become of it.
        self.too_great(ONE_AXIS, (p("u.x"), high("u", 13)))

    def test_orders_of_a_right(self):
        # t.x and t.y tell u.x = v.y.. of a CONDITION; t.x has u.x, derived once by y, or twice.
        ranking = ("names", ("t", "u", "v"), ("x", "y"))
        for text, due in (("u.xy", False), ("u.xyy", True)):
            first = less(p("t.y - u"), derived(p(text.replace("x", "")), "y"))
            second = less(p("t.x"), plus(p(text), of_derivative(("v", 0, 10))))
            if due:
                self.too_great(ranking, (first, second))
            else:
                self.stands(ranking, (first, second))
                self.assertEqual(joinings(ranking, (first, second))[-1], (d("u.x"), ()))

    def test_how_many_join(self):
        self.stands(NAMES, polynomials_of(*JOIN_24))
        told = joinings(NAMES, polynomials_of(*JOIN_24))
        self.assertEqual(len(told), 24)
        self.assertLess(len(closed_chain(NAMES, polynomials_of(*JOIN_24))), 24)
        self.assertEqual(len(closing_by_hand(NAMES, polynomials_of(*JOIN_25))[1]), 25)
        self.too_great(NAMES, polynomials_of(*JOIN_25))

    def test_a_contradiction_has_no_bounds_but_those_of_normal_forms(self):
        great = (plus(p("u"), sum_of_terms("v", 60)), p("u^9"), high("u", 13), raised(p("u"), 16))
        for one in great:
            self.too_great(NAMES, (one,))
            self.stands(NAMES, (one, p("1")), "contradiction")
        for one in (sum_of_terms("v", 121), raised(p("u"), 17)):
            self.too_great(NAMES, (one,))
            self.too_great(NAMES, (one, p("1")))
        self.stands(NAMES, (sum_of_terms("v", 120), p("1")), "contradiction")

    def test_normal_forms_on_the_way(self):
        # v joins with 11 terms; then one goes to 1, the other one has 66 terms, or 286.
        terms = sum_of_terms("w", 11)
        one = plus(times(plus(p("v"), terms), p("w")), p("1"))
        for power, due in ((2, False), (3, True)):
            equations = (plus(p("v"), terms), one, times(raised(p("v"), power), p("u")))
            if due:
                self.too_great(NAMES, equations)
            else:
                self.stands(NAMES, equations, "contradiction")


class Refused(unittest.TestCase):
    def test_in_order(self):
        bad = ((BadRanking, NO_RANKINGS), (BadPolynomial, NO_EQUATIONS + WITH_NONE))
        for call in (closing, joinings, closed_chain):
            refused_in_order(self, call, (UV, polynomials_of("u.x", "v.y")), bad)

    def test_numbers(self):
        for call in (closing, joinings, closed_chain):
            for equations, number in (
                ([], None),
                (((),) * 13, None),
                (polynomials_of("u", "v", "w"), 2),
                ((raised(p("u"), 20), None), 1),
            ):
                with self.assertRaises(BadPolynomial) as caught:
                    call(UV, equations)
                self.assertEqual(caught.exception.number, number)

    def test_what_is_handed_in_is_as_it_was(self):
        some = polynomials_of("u.xy - u", "u.x - v.y", "v.xx")
        closing(UV, some)
        joinings(UV, some)
        self.assertEqual(some, polynomials_of("u.xy - u", "u.x - v.y", "v.xx"))

    def test_chains_of_the_tests_are_told_again(self):
        for ranking, pairs in (WAVE, SQUARES):
            self.assertEqual(closed_chain(ranking, tuple(equation_of(ranking, pair) for pair in pairs)), pairs)


if __name__ == "__main__":
    unittest.main()
