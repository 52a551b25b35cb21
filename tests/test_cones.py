"""rankedchains.cones: promises [40] and [41]."""

import random
import unittest

from rankedchains.chains import principal_by
from rankedchains.cones import check_cones, cone_has, free_cones, is_cone, principal_cones
from rankedchains.errors import BadChain, BadPaper, BadRanking, OutOfPlace
from rankedchains.rankings import all_to
from systems import (
    ALL,
    BY_NAMES,
    EMPTY,
    HEAT,
    NAMES,
    ONE_AXIS,
    SQUARES,
    SWING,
    UV,
    YX,
    YX_NAMES,
    some_chain,
)
from things import NO_CHAINS_OF_UV, NO_DERIVATIVES, NO_RANKINGS, Odd, Yes, chain, d, refused_in_order, things

U = ("total", ("u",), ("x", "y"))
UVW_X = ("names", ("w", "u", "v"), ("x",))
CORNERS = (U, chain("u.xxy = 0", "u.yyyy = 0", "u.xxxxx = u"))
NO_CONES = things() + [
    [d("u"), ()],
    (d("u"),),
    (d("u"), (), ()),
    (d("u"), None),
    (d("u"), []),
    (d("u"), "x"),
    (d("u"), ["x"]),
    (d("u"), ("z",)),
    (d("u"), ("y", "x")),
    (d("u"), ("x", "x")),
    (d("u"), ("x", "y", "x")),
    (d("u"), (None,)),
    (d("u"), (Odd(),)),
    (d("u"), (Yes(),)),
    (d("u"), Odd()),
    (d("w"), ()),
    (list(d("u")), ()),
    (("u", -1, 0), ()),
    (("u", True, 0), ()),
    (None, ()),
    (Odd(), ()),
]


def cone(text):
    """A CONE of a text such as "u.x by xy"."""
    left, _, ways = text.partition(" by ")
    return (d(left), tuple(ways))


def cones(*texts):
    return tuple(cone(text) for text in texts)


def has_by_hand(one, derivative):
    (name, by_x, by_y), ways = one
    return (
        derivative[0] == name
        and (derivative[1] >= by_x if "x" in ways else derivative[1] == by_x)
        and (derivative[2] >= by_y if "y" in ways else derivative[2] == by_y)
    )


def told_by_hand(ranking, pairs):
    """[41], word by word."""
    free, principal = [], []
    for name in ranking[1]:
        leaders = [leader for leader, _ in pairs if leader[0] == name]
        last = max([leader[1] for leader in leaders], default=0)
        if "y" not in ranking[2]:
            if not leaders:
                free.append(((name, 0, 0), ("x",)))
                continue
            free.extend(((name, at, 0), ()) for at in range(last))
            principal.append(((name, last, 0), ("x",)))
            continue
        for at in range(last):
            tops = [leader[2] for leader in leaders if leader[1] <= at]
            if not tops:
                free.append(((name, at, 0), ("y",)))
            else:
                free.extend(((name, at, below), ()) for below in range(min(tops)))
                principal.append(((name, at, min(tops)), ("y",)))
        if not leaders:
            free.append(((name, 0, 0), ("x", "y")))
        else:
            top = min(leader[2] for leader in leaders)
            free.extend(((name, last, below), ("x",)) for below in range(top))
            principal.append(((name, last, top), ("x", "y")))
    return tuple(free), tuple(principal)


class Told(unittest.TestCase):
    def test_by_hand(self):
        for (ranking, pairs), free, principal in (
            (HEAT, ("u by y", "u.x by y", "v by xy"), ("u.xx by xy",)),
            (EMPTY, ("u by xy", "v by xy"), ()),
            ((YX, ()), ("u by xy", "v by xy"), ()),
            ((ONE_AXIS, ()), ("u by x", "v by x"), ()),
            (SWING, ("u", "v"), ("u.x by x", "v.x by x")),
            (SQUARES, ("u", "u.x", "v", "v.x", "v.xx"), ("u.xx by x", "v.xxx by x")),
            ((ONE_AXIS, chain("v = 0")), ("u by x",), ("v by x",)),
            ((UVW_X, chain("v.xx = 0", "w = v")), ("u by x", "v", "v.x"), ("w by x", "v.xx by x")),
            ((U, chain("u = 0")), (), ("u by xy",)),
            ((U, chain("u.y = 0")), ("u by x",), ("u.y by xy",)),
            ((U, chain("u.yy = 0")), ("u by x", "u.y by x"), ("u.yy by xy",)),
            ((U, chain("u.x = 0")), ("u by y",), ("u.x by xy",)),
            ((U, chain("u.y = 0", "u.x = 0")), ("u",), ("u.y by y", "u.x by xy")),
            ((U, chain("u.xy = 0")), ("u by y", "u.x by x"), ("u.xy by xy",)),
            ((U, chain("u.yy = 0", "u.xy = 0")), ("u", "u.y", "u.x by x"), ("u.yy by y", "u.xy by xy")),
            (
                CORNERS,
                ("u", "u.y", "u.yy", "u.yyy", "u.x", "u.xy", "u.xyy", "u.xyyy", "u.xx", "u.xxx", "u.xxxx"),
                ("u.yyyy by y", "u.xyyyy by y", "u.xxy by y", "u.xxxy by y", "u.xxxxy by y", "u.xxxxx by xy"),
            ),
            (BY_NAMES, ("u by y", "v by x", "w by y", "w.x by y"), ("u.x by xy", "v.y by xy", "w.xx by xy")),
        ):
            self.assertEqual(free_cones(ranking, pairs), cones(*free))
            self.assertEqual(principal_cones(ranking, pairs), cones(*principal))
        ranking, pairs = HEAT
        self.assertEqual(free_cones(ranking=ranking, chain=pairs), cones("u by y", "u.x by y", "v by xy"))
        self.assertEqual(principal_cones(ranking=ranking, chain=pairs), cones("u.xx by xy"))

    def test_against_the_document(self):
        chance = random.Random(411)
        for ranking in (UV, YX, NAMES, YX_NAMES, ONE_AXIS, U, UVW_X):
            for _ in range(25):
                pairs = some_chain(chance, ranking, 6, 5)
                free, principal = free_cones(ranking, pairs), principal_cones(ranking, pairs)
                self.assertEqual((free, principal), told_by_hand(ranking, pairs))
                for one in all_to(ranking, 7):
                    is_free = principal_by(ranking, pairs, one) is None
                    self.assertEqual(len([held for held in free if has_by_hand(held, one)]), int(is_free))
                    self.assertEqual(len([held for held in principal if has_by_hand(held, one)]), int(not is_free))
                self.assertEqual(check_cones(ranking, pairs, (free, principal)), len(free) + len(principal))

    def test_refused_in_order(self):
        for call in (free_cones, principal_cones):
            refused_in_order(self, call, HEAT, ((BadRanking, NO_RANKINGS), (BadChain, NO_CHAINS_OF_UV)))


class Cones(unittest.TestCase):
    def test_is_cone(self):
        for text in ("u", "u.xxy by x", "v by y", "v.y by xy"):
            for ranking in (UV, YX, NAMES, YX_NAMES):
                self.assertIs(is_cone(ranking, cone(text)), True)
        self.assertIs(is_cone(ranking=UV, thing=cone("u by x")), True)
        for thing in NO_CONES:
            self.assertIs(is_cone(UV, thing), False)
        for text, due in (("u", True), ("u.x by x", True), ("u by y", False), ("u by xy", False), ("u.y", False)):
            self.assertIs(is_cone(ONE_AXIS, cone(text)), due)
        refused_in_order(self, is_cone, (UV, cone("u")), ((BadRanking, NO_RANKINGS),))

    def test_cone_has(self):
        for text, derivative, due in (
            ("u", "u", True),
            ("u", "u.x", False),
            ("u", "v", False),
            ("u.x by x", "u.xxx", True),
            ("u.x by x", "u", False),
            ("u.x by x", "u.xy", False),
            ("u.x by y", "u.xyy", True),
            ("u.x by y", "u.xx", False),
            ("u.xy by xy", "u.xyxy", True),
            ("u.xy by xy", "u.xx", False),
            ("u by xy", "v.xy", False),
        ):
            self.assertIs(cone_has(UV, cone(text), d(derivative)), due, (text, derivative))
        self.assertIs(cone_has(ranking=UV, cone=cone("u by x"), derivative=d("u.x")), True)
        chance = random.Random(412)
        for ranking in (UV, YX_NAMES):
            every = all_to(ranking, 3)
            for _ in range(300):
                one = (chance.choice(every), chance.choice(((), ("x",), ("y",), ("x", "y"))))
                other = chance.choice(every)
                self.assertIs(cone_has(ranking, one, other), has_by_hand(one, other))

    def test_cone_has_refused(self):
        bad = ((BadRanking, NO_RANKINGS), (OutOfPlace, NO_CONES), (OutOfPlace, NO_DERIVATIVES))
        refused_in_order(self, cone_has, (UV, cone("u by x"), d("u.x")), bad)
        with self.assertRaises(OutOfPlace):
            cone_has(ONE_AXIS, cone("u by y"), d("u"))
        with self.assertRaises(OutOfPlace):
            cone_has(ONE_AXIS, cone("u by x"), d("u.y"))


class Papers(unittest.TestCase):
    def refused(self, system, paper, place):
        with self.assertRaises(BadPaper) as caught:
            check_cones(*system, paper)
        self.assertEqual(caught.exception.place, place)

    def test_papers_made_otherwise(self):
        for system, free, principal in (
            (HEAT, ("v by xy", "u by y", "u.x by y"), ("u.xx by xy",)),
            (HEAT, ("v by x", "u.x by y", "v.y by xy", "u by y"), ("u.xx by y", "u.xxxy by xy", "u.xxx by x")),
            (HEAT, ("u", "u.y", "u.yy by y", "v by xy", "u.x", "u.xy by y"), ("u.xx by x", "u.xxy by xy")),
            (EMPTY, ("u by xy", "v", "v.x by x", "v.y by y", "v.xy by xy"), ()),
            (SWING, ("v", "u"), ("v.x", "u.x by x", "v.xx by x")),
            ((ONE_AXIS, chain("v = 0")), ("u", "u.xx by x", "u.x"), ("v by x",)),
            ((U, chain("u.y = 0", "u.x = 0")), ("u",), ("u.x by x", "u.y by xy")),
            ((U, chain("u.y = 0", "u.x = 0")), ("u",), ("u.x by xy", "u.y by y")),
            ((U, chain("u = 0")), (), ("u by xy",)),
            ((U, chain("u = 0")), (), ("u.xxx by xy", "u by y", "u.xx by y", "u.x by y")),
        ):
            free, principal = cones(*free), cones(*principal)
            self.assertEqual(check_cones(*system, (free, principal)), len(free) + len(principal))
        ranking, pairs = HEAT
        paper = (free_cones(*HEAT), principal_cones(*HEAT))
        self.assertEqual(check_cones(ranking=ranking, chain=pairs, paper=paper), 4)

    def test_other_orders(self):
        chance = random.Random(413)
        for ranking, pairs in (*ALL, CORNERS):
            free, principal = list(free_cones(ranking, pairs)), list(principal_cones(ranking, pairs))
            chance.shuffle(free)
            chance.shuffle(principal)
            self.assertEqual(check_cones(ranking, pairs, (tuple(free), tuple(principal))), len(free) + len(principal))

    def test_no_pair_of_tuples(self):
        free, principal = free_cones(*HEAT), principal_cones(*HEAT)
        for paper in (
            *things(),
            [free, principal],
            (free,),
            (free, principal, ()),
            (list(free), principal),
            (free, list(principal)),
            (None, principal),
            (free, Odd()),
            (Odd(), principal),
            (Yes(), Yes()),
        ):
            if not (isinstance(paper, tuple) and len(paper) == 2 and all(isinstance(part, tuple) for part in paper)):
                self.refused(HEAT, paper, None)

    def test_what_is_no_cone(self):
        free, principal = free_cones(*HEAT), principal_cones(*HEAT)
        for thing in NO_CONES:
            for at in range(4):
                self.refused(HEAT, (free[:at] + (thing,) + free[at:], (Odd(),)), ("free", at))
            for at in range(2):
                self.refused(HEAT, (free, principal[:at] + (thing, Odd()) + principal[at:]), ("principal", at))
        self.refused(SWING, (cones("u", "v by y"), cones("u.x by x", "v.x by x")), ("free", 1))

    def test_of_the_other_kind(self):
        principal = principal_cones(*HEAT)
        for text in ("u.xx", "u by x", "u by xy", "u.xxyyyy by y", "u.yyyyy by x"):
            self.refused(HEAT, (cones("v by xy", text), principal), ("free", 1))
        for text in ("u", "u.xyyy", "u.x by xy", "u.x by y", "v.xxx", "v by xy", "u.x by x"):
            self.refused(HEAT, (free_cones(*HEAT), cones(text)), ("principal", 0))
        self.refused(CORNERS, (cones("u.xxxx by y"), ()), ("free", 0))
        self.refused(CORNERS, (cones("u.yyy by x"), ()), ("free", 0))
        self.refused(CORNERS, (cones("u.xyyy by y"), ()), ("free", 0))

    def test_what_a_cone_ahead_has(self):
        for free, place in (
            (("u by y", "u by y"), 1),
            (("u by y", "u.yyy"), 1),
            (("u.yyy", "u by y"), 1),
            (("v by x", "v.xx by y"), 1),
            (("v.xy by y", "v.yy by x"), 1),
            (("v.xy by xy", "u by y", "v.yyy by x"), 2),
            (("v.xxy by y", "v.xyy by xy"), 1),
        ):
            self.refused(HEAT, (cones(*free), principal_cones(*HEAT)), ("free", place))
        free = free_cones(*HEAT)
        self.refused(HEAT, (free, cones("u.xx by y", "u.xxx by xy", "u.xxxxy by x")), ("principal", 2))
        self.refused(HEAT, (free, cones("u.xx by xy", "u.xx")), ("principal", 1))

    def test_what_lacks(self):
        free, principal = free_cones(*HEAT), principal_cones(*HEAT)
        for some, others, order in (
            ((), (), 0),
            (free[1:], principal, 0),
            (free[:1] + free[2:], principal, 1),
            (free[:2], principal, 0),
            (free, (), 2),
            (free, cones("u.xxx by xy"), 2),
            (free, cones("u.xx by y", "u.xxxx by xy"), 3),
            (free, cones("u.xx by x"), 3),
            (cones("u by y", "u.x by y", "v.xxx by xy", "v by y", "v.x by y"), principal, 2),
            (cones("u by y", "u.x", "u.xyy by y", "v by xy"), principal, 2),
            (cones("u", "u.y", "u.yy", "u.yyy", "u.x by y", "v by xy"), principal, 4),
            (cones("u by y", "u.x by y", "v by x", "v.y by x", "v.yy by x", "v.yyy by x"), principal, 4),
        ):
            self.refused(HEAT, (some, others), ("lacks", order))
        self.refused(SWING, (cones("u", "v"), cones("u.x by x", "v.x", "v.xx")), ("lacks", 3))
        self.refused((ONE_AXIS, ()), (cones("u by x", "v"), ()), ("lacks", 1))

    def test_all_places_by_reckoning(self):
        chance = random.Random(414)
        ways = {2: ((), ("x",), ("y",), ("x", "y")), 1: ((), ("x",))}
        found = {}
        for _ in range(1500):
            ranking, pairs = chance.choice((HEAT, SWING, CORNERS, EMPTY, (U, chain("u.y = 0", "u.xx = 0")), SQUARES))
            paper = [list(free_cones(ranking, pairs)), list(principal_cones(ranking, pairs))]
            for _ in range(chance.randint(0, 2)):
                some = chance.choice(paper)
                if some and chance.random() < 0.7:
                    some.pop(chance.randrange(len(some)))
                if chance.random() < 0.7:
                    one = (chance.choice(all_to(ranking, 3)), chance.choice(ways[len(ranking[2])]))
                    some.insert(chance.randint(0, len(some)), one)
            paper = tuple(tuple(some) for some in paper)
            due = self.place_by_hand(ranking, pairs, paper)
            word = due if isinstance(due, str) else due[0]
            found[word] = found.get(word, 0) + 1
            if due == "good":
                self.assertEqual(check_cones(ranking, pairs, paper), len(paper[0]) + len(paper[1]))
            else:
                self.refused((ranking, pairs), paper, due)
        for word in ("good", "free", "principal", "lacks"):
            self.assertGreater(found[word], 50)

    def place_by_hand(self, ranking, pairs, paper):
        """The place at which a paper is refused, by a look at all DERIVATIVES up to an ORDER behind all corners."""
        every = all_to(ranking, 12)
        taken = set()
        for word, some in zip(("free", "principal"), paper):
            for number, one in enumerate(some):
                held = [derivative for derivative in every if has_by_hand(one, derivative)]
                for derivative in held:
                    kind = "free" if principal_by(ranking, pairs, derivative) is None else "principal"
                    if kind != word or derivative in taken:
                        return (word, number)
                taken.update(held)
        lacking = [by_x + by_y for name, by_x, by_y in every if (name, by_x, by_y) not in taken]
        return ("lacks", min(lacking)) if lacking else "good"

    def test_far_corners(self):
        far = 10**40
        ranking, pairs = (ONE_AXIS, ())
        free = ((("u", 0, 0), ("x",)), (("v", far, 0), ("x",)))
        self.refused((ranking, pairs), (free, ()), ("lacks", 0))
        self.refused((U, ((("u", 0, 0), ()),)), ((), ((("u", far, far), ("x", "y")),)), ("lacks", 0))

    def test_refused_in_order(self):
        good = (*HEAT, (free_cones(*HEAT), principal_cones(*HEAT)))
        bad = ((BadRanking, NO_RANKINGS), (BadChain, NO_CHAINS_OF_UV), (BadPaper, things()))
        refused_in_order(self, check_cones, good, bad)


if __name__ == "__main__":
    unittest.main()
