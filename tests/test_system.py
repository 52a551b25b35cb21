"""rankedchains.system: a SYSTEM over EDITS [70] to [73]."""

import random
import unittest

from rankedchains.cases import cases
from rankedchains.counts import counts
from rankedchains.errors import (
    BadData,
    BadPolynomial,
    BadRanking,
    ChainError,
    Contradicted,
    Knotted,
    MissError,
    NoCase,
    NoEquation,
    Nothing,
    OutOfPlace,
    TooGreat,
    Twice,
)
from rankedchains.follows import word_of
from rankedchains.followspaper import check_follows
from rankedchains.polynomials import raised
from rankedchains.series import jet_of
from rankedchains.system import MOST_ASSUMED, MOST_MANY, MOST_TOLD, System, is_edit
from systems import UV, high, polynomials_of
from things import NO_POLYNOMIALS, NO_RANKINGS, Odd, Yes, chain, d, p, things

ONE = ("total", ("u", "v"), ("x",))
NAMES = ("names", ("v", "u"), ("y", "x"))
EDITS = (
    ("tell", p("u")),
    ("take", 0),
    ("assume", p("v")),
    ("drop",),
    ("rank", UV),
    ("many", (("drop",),)),
    ("many", (("drop",),) * 8),
)
OTHER_RANKINGS = [
    ("total", ("u",), ("x", "y")),
    ("total", ("u", "v", "w"), ("x", "y")),
    ("names", ("u", "w"), ("x", "y")),
    ("total", ("u", "v"), ("x",)),
]


def shown(system):
    """All that is told of a SYSTEM but its LOG."""
    return system.ranking(), system.told(), system.assumed(), system.equations(), system.edits(), len(system)


def anew(system):
    """A SYSTEM made anew with the same RANKING and EQUATIONS."""
    other = System(system.ranking())
    for _, one in system.told():
        other.tell(one)
    for one in system.assumed():
        other.assume(one)
    return other


class Forms(unittest.TestCase):
    def test_edits(self):
        for edit in EDITS:
            self.assertIs(is_edit(edit), True)
        for word in ("tell", "take", "assume", "rank"):
            for thing in things():
                self.assertIs(is_edit((word, thing)), True)
        self.assertIs(is_edit(thing=("drop",)), True)
        self.assertIs(is_edit(("many", (("tell", Odd()), ("take", None), ("rank", Yes())))), True)

    def test_none(self):
        for thing in (
            *things(),
            ("tell",),
            ("tell", 1, 2),
            ("drop", None),
            ("take",),
            ("rank",),
            ("many",),
            ("many", (), ()),
            ("undo",),
            ("redo",),
            ["drop"],
            (b"drop",),
            (Odd(), 1),
            (Yes(), 1),
            ("Tell", p("u")),
        ):
            self.assertIs(is_edit(thing), False)
        for thing in (
            *things(),
            [("drop",)],
            (("drop",),) * 9,
            (("drop",), None),
            (("many", (("drop",),)),),
            (("drop",), ("drop", 1)),
            (("undo",),),
        ):
            self.assertIs(is_edit(("many", thing)), False)


class Edits(unittest.TestCase):
    def test_a_new_one(self):
        for ranking in (UV, ONE, NAMES):
            for system in (System(ranking), System(ranking=ranking)):
                self.assertEqual(shown(system), (ranking, [], (), (), [], 0))
                self.assertEqual(system.log(), [])
                self.assertIs(system.busy(), False)
        for thing in NO_RANKINGS:
            with self.assertRaises(BadRanking):
                System(thing)
        with self.assertRaises(BadRanking) as caught:
            System(("total", ("u", "u"), ("x",)))
        self.assertEqual(caught.exception.place, "names")

    def test_by_methods_and_by_do(self):
        one, other = System(UV), System(UV)
        for call, edit, due in (
            (lambda: one.tell(p("u")), ("tell", p("u")), 0),
            (lambda: one.tell(polynomial=p("v")), ("tell", p("v")), 1),
            (lambda: one.assume(p("u.x")), ("assume", p("u.x")), 1),
            (lambda: one.assume(polynomial=p("u")), ("assume", p("u")), 2),
            (lambda: one.take(0), ("take", 0), p("u")),
            (lambda: one.take(number=1), ("take", 1), p("v")),
            (lambda: one.tell(p("u.y")), ("tell", p("u.y")), 2),
            (lambda: one.drop(), ("drop",), p("u")),
            (lambda: one.rank(NAMES), ("rank", NAMES), UV),
            (lambda: one.rank(ranking=UV), ("rank", UV), NAMES),
            (lambda: one.many((("tell", p("u")), ("drop",))), ("many", (("tell", p("u")), ("drop",))), (3, p("u.x"))),
            (lambda: one.many(edits=(("take", 2),)), ("many", (("take", 2),)), (p("u.y"),)),
        ):
            self.assertEqual(call(), due)
            self.assertEqual(other.do(edit), due)
            self.assertEqual(shown(one), shown(other))
            self.assertEqual(one.log(), other.log())
            self.assertEqual(one.edits()[-1], edit)
        self.assertEqual(System(UV).do(edit=("tell", p("u"))), 0)

    def test_what_is_there_behind_them(self):
        system = System(UV)
        system.tell(p("u"))
        system.tell(p("v"))
        system.assume(p("u.x"))
        system.tell(p("u + v"))
        system.assume(p("u"))
        system.take(1)
        self.assertEqual(system.told(), [(0, p("u")), (2, p("u + v"))])
        self.assertEqual(system.assumed(), polynomials_of("u.x", "u"))
        self.assertEqual(system.equations(), polynomials_of("u", "u + v", "u.x", "u"))
        self.assertEqual(len(system), 2)
        self.assertEqual(len(system.edits()), 6)
        self.assertEqual((type(system.told()), type(system.assumed()), type(system.edits())), (list, tuple, list))

    def test_numbers_are_not_given_again(self):
        system = System(UV)
        self.assertEqual([system.tell(p(text)) for text in ("u", "v")], [0, 1])
        system.take(1)
        system.take(0)
        self.assertEqual(system.tell(p("u")), 2)
        system.take(2)
        self.assertEqual(system.tell(p("u")), 3)
        self.assertEqual(system.many((("take", 3), ("tell", p("u")), ("take", 4), ("tell", p("v")))), (p("u"), 4, p("u"), 5))

    def test_numbers_behind_an_undo(self):
        system = System(UV)
        system.tell(p("u"))
        system.tell(p("v"))
        system.undo()
        self.assertEqual(system.tell(p("u.x")), 1)
        system.take(1)
        system.undo()
        self.assertEqual(system.tell(p("v")), 2)
        system.undo()
        system.undo()
        system.undo()
        self.assertEqual(system.tell(p("v")), 0)
        system = System(UV)
        with self.assertRaises(Twice):
            system.many((("tell", p("u")), ("tell", p("u"))))
        self.assertEqual(system.tell(p("u")), 0)

    def test_others_of_the_same_names_and_axes(self):
        system = System(UV)
        system.tell(p("u.xy + v"))
        ahead = UV
        for ranking in (
            ("total", ("v", "u"), ("x", "y")),
            ("total", ("u", "v"), ("y", "x")),
            ("names", ("u", "v"), ("x", "y")),
            ("names", ("v", "u"), ("y", "x")),
            ("names", ("v", "u"), ("y", "x")),
            UV,
        ):
            self.assertEqual(system.rank(ranking), ahead)
            self.assertEqual(system.ranking(), ranking)
            ahead = ranking
        self.assertEqual(system.told(), [(0, p("u.xy + v"))])


class Refused(unittest.TestCase):
    def refused(self, system, kind, *calls, **fields):
        """Looks that calls are refused, and change nothing but the LOG."""
        for call in calls:
            before = shown(system), len(system.log())
            with self.assertRaises(kind) as caught:
                call()
            self.assertIs(type(caught.exception), kind)
            for name, due in fields.items():
                self.assertEqual(getattr(caught.exception, name), due)
            self.assertEqual(shown(system), before[0])
            self.assertIs(system.busy(), False)

    def full(self):
        system = System(UV)
        for number in range(MOST_TOLD):
            system.tell(high("u", number))
        for number in range(MOST_ASSUMED):
            system.assume(high("v", number))
        return system

    def test_no_form(self):
        system = self.full()
        for thing in (*things(), ("tell",), ("drop", 1), ("undo",), ("many", ()), ["drop"], Odd(), Yes()):
            if not is_edit(thing):
                before = system.log()
                self.refused(system, OutOfPlace, lambda: system.do(thing))
                self.assertEqual(system.log(), before)
        for thing in (*things(), (("drop",),) * 9, (("many", (("drop",),)),), (("drop",), ("drop", 1))):
            before = system.log()
            self.refused(system, OutOfPlace, lambda: system.many(thing), lambda: system.do(("many", thing)))
            self.assertEqual(system.log(), before)

    def test_no_polynomials(self):
        for system in (System(UV), self.full()):
            for thing in NO_POLYNOMIALS:
                calls = (system.tell, system.assume, lambda one: system.do(("tell", one)), lambda one: system.do(("assume", one)))
                for call in calls:
                    self.refused(system, BadPolynomial, lambda: call(thing), number=None)
        system = System(ONE)
        self.refused(system, BadPolynomial, lambda: system.tell(p("u.y")), lambda: system.assume(p("u.xy")))

    def test_twice(self):
        system = self.full()
        self.refused(system, Twice, lambda: system.tell(p("u")), lambda: system.tell(high("u", 7)))
        self.refused(system, Twice, lambda: system.assume(p("v")), lambda: system.assume(high("v", 3)))
        # Each by itself.
        system = System(UV)
        system.tell(p("u"))
        system.assume(p("u"))
        self.refused(system, Twice, lambda: system.tell(p("u")), lambda: system.assume(p("u")))
        self.assertEqual(system.tell(p("2*u")), 1)
        system.take(0)
        self.assertEqual(system.tell(p("u")), 2)

    def test_too_many(self):
        self.assertEqual((MOST_TOLD, MOST_ASSUMED, MOST_MANY), (8, 4, 8))
        system = self.full()
        self.assertEqual(len(system.equations()), 12)
        self.refused(system, TooGreat, lambda: system.tell(p("v.x")), lambda: system.assume(p("u.x")))
        system.take(3)
        self.assertEqual(system.tell(p("v.x")), 8)
        self.refused(system, TooGreat, lambda: system.tell(p("v.xy")))
        system.drop()
        self.assertEqual(system.assume(p("u.x")), 4)

    def test_take(self):
        system = self.full()
        system.take(2)
        for number in (*things(), -1, 2, 8, 10**30, True):
            if isinstance(number, int) and not isinstance(number, bool) and number in (0, 1):
                continue
            before = shown(system)
            with self.assertRaises(NoEquation) as caught:
                system.take(number)
            self.assertIs(caught.exception.number, number)
            self.assertEqual(shown(system), before)
        new = System(UV)
        self.refused(new, NoEquation, lambda: new.take(0), number=0)
        self.refused(new, NoEquation, lambda: new.do(("take", 0)), number=0)

    def test_drop(self):
        system = System(UV)
        self.refused(system, Nothing, lambda: system.drop(), lambda: system.do(("drop",)))
        system.tell(p("u"))
        self.refused(system, Nothing, lambda: system.drop())

    def test_rank(self):
        system = self.full()
        for thing in NO_RANKINGS:
            self.refused(system, BadRanking, lambda: system.rank(thing), lambda: system.do(("rank", thing)))
        self.refused(system, BadRanking, lambda: system.rank(("total", ("u", "v"), ("x", "z"))), place="axes")
        self.refused(system, BadRanking, lambda: system.rank(None), place=None)
        for ranking in OTHER_RANKINGS:
            self.refused(system, OutOfPlace, lambda: system.rank(ranking), lambda: system.do(("rank", ranking)))

    def test_many_by_the_first_that_is_refused(self):
        system = System(UV)
        system.tell(p("u"))
        tell = ("tell", p("v"))
        for edits, kind in (
            ((tell, ("tell", p("u"))), Twice),
            ((tell, tell), Twice),
            ((tell, ("take", 2), ("drop",)), NoEquation),
            ((tell, ("drop",), ("take", 2)), Nothing),
            ((tell, ("take", 0), ("take", 0)), NoEquation),
            ((("assume", p("w")), ("rank", None)), BadPolynomial),
            ((("rank", None), ("assume", p("w"))), BadRanking),
            ((("rank", NAMES), ("rank", OTHER_RANKINGS[0])), OutOfPlace),
            (tuple(("assume", high("v", number)) for number in range(5)), TooGreat),
        ):
            self.refused(system, kind, lambda: system.many(edits), lambda: system.do(("many", edits)))
        self.assertEqual(system.many((tell, ("take", 1), ("assume", p("v")), ("drop",))), (1, p("v"), 1, p("v")))

    def test_none_is_refused_for_what_might_be_asked(self):
        system = System(UV)
        self.assertEqual(system.tell(raised(p("u"), 40)), 0)
        self.assertEqual(system.tell(p("1")), 1)
        self.assertEqual(system.tell(()), 2)
        self.assertEqual(system.assume(high("u", 99)), 1)
        for call in (system.leaves, lambda: system.chain(None), lambda: system.word_of(p("u"))):
            with self.assertRaises(TooGreat):
                call()


class Undone(unittest.TestCase):
    def test_one_by_one(self):
        system = System(UV)
        states = [shown(system)[:4]]
        edits = [
            ("tell", p("u.x - v")),
            ("assume", p("v")),
            ("rank", NAMES),
            ("many", (("tell", p("u")), ("take", 0), ("drop",))),
            ("tell", p("v.x")),
            ("take", 1),
            ("assume", p("u*v")),
            ("drop",),
        ]
        for edit in edits:
            system.do(edit)
            states.append(shown(system)[:4])
        self.assertEqual(system.edits(), edits)
        for _ in range(2):
            for at in reversed(range(len(edits))):
                self.assertEqual(system.undo(), edits[at])
                self.assertEqual(shown(system)[:4], states[at])
                self.assertEqual(system.edits(), edits[:at])
            with self.assertRaises(Nothing):
                system.undo()
            for at, edit in enumerate(edits):
                self.assertEqual(system.redo(), edit)
                self.assertEqual(shown(system)[:4], states[at + 1])
                self.assertEqual(system.edits(), edits[: at + 1])
            with self.assertRaises(Nothing):
                system.redo()

    def test_until_one_is_done(self):
        system = System(UV)
        system.tell(p("u"))
        system.tell(p("v"))
        system.undo()
        system.undo()
        self.assertEqual(system.redo(), ("tell", p("u")))
        # Refused ones aren't counted.
        for call in (lambda: system.tell(p("u")), lambda: system.drop(), lambda: system.do(None), lambda: system.take(7)):
            with self.assertRaises((ChainError, MissError)):
                call()
        self.assertEqual(system.redo(), ("tell", p("v")))
        system.undo()
        self.assertEqual(system.leaves(), cases(UV, polynomials_of("u")))
        self.assertEqual(system.redo(), ("tell", p("v")))
        system.undo()
        system.assume(p("u"))
        with self.assertRaises(Nothing):
            system.redo()
        self.assertEqual(system.undo(), ("assume", p("u")))
        self.assertEqual(system.undo(), ("tell", p("u")))
        with self.assertRaises(Nothing):
            system.undo()

    def test_by_chance(self):
        chance = random.Random(731)
        some = [p(text) for text in ("u", "v", "u.x", "u*v", "u.x - v", "1", "v.y")]
        for _ in range(20):
            system = System(UV)
            states, behind = [shown(system)[:4]], []
            for _ in range(60):
                word = chance.choice(("tell", "take", "assume", "drop", "rank", "undo", "undo", "redo"))
                try:
                    if word == "undo":
                        system.undo()
                        behind.append(states.pop())
                    elif word == "redo":
                        system.redo()
                        states.append(behind.pop())
                    else:
                        made = {"tell": chance.choice(some), "take": chance.randint(0, 9), "assume": chance.choice(some)}
                        made["rank"] = chance.choice((UV, NAMES))
                        system.do((word, made[word]) if word != "drop" else ("drop",))
                        states.append(shown(system)[:4])
                        behind = []
                except (Nothing, NoEquation, Twice, TooGreat):
                    pass
                self.assertEqual(shown(system)[:4], states[-1])
                self.assertEqual(len(system.edits()), len(states) - 1)


class Logs(unittest.TestCase):
    def test_as_they_come(self):
        system = System(UV)
        due = []

        def did(word, ended):
            due.extend([("begin", word), ("end", word, ended)])
            self.assertEqual(system.log(), due)

        system.tell(p("u"))
        did("tell", "done")
        for call, word in (
            (lambda: system.tell(p("u")), "tell"),
            (lambda: system.take(5), "take"),
            (lambda: system.drop(), "drop"),
            (lambda: system.assume(None), "assume"),
            (lambda: system.rank(None), "rank"),
            (lambda: system.redo(), "redo"),
            (lambda: system.many((("tell", p("v")), ("drop",))), "many"),
        ):
            with self.assertRaises((ChainError, MissError)):
                call()
            did(word, "refused")
        system.many((("tell", p("v")), ("take", 1)))
        did("many", "done")
        system.rank(NAMES)
        did("rank", "done")
        system.undo()
        did("undo", "done")
        system.redo()
        did("redo", "done")
        system.assume(p("v"))
        did("assume", "done")
        system.drop()
        did("drop", "done")
        for _ in range(5):
            system.undo()
            did("undo", "done")
        with self.assertRaises(Nothing):
            system.undo()
        did("undo", "refused")

    def test_nothing_of_what_is_asked(self):
        system = System(UV)
        system.tell(p("u*v"))
        before = system.log()
        for call in (
            system.told,
            system.assumed,
            system.equations,
            system.ranking,
            system.edits,
            system.log,
            system.busy,
            system.leaves,
            system.copied,
            lambda: system.chain(0),
            lambda: system.jet(0),
            lambda: system.counts(0),
            lambda: system.word_of(p("u")),
            lambda: system.follows_paper(p("u")),
            lambda: len(system),
            lambda: system == system.copied(),
            lambda: repr(system),
        ):
            call()
        for call in (lambda: system.chain(5), lambda: system.do(None), lambda: system.many(()), lambda: system.word_of(1)):
            with self.assertRaises((ChainError, MissError)):
                call()
        self.assertEqual(system.log(), before)
        self.assertEqual(len(system.edits()), 1)

    def test_busy_while_one_is_done(self):
        system = System(UV)
        seen = []

        class Watched(tuple):
            def __eq__(self, other):
                seen.append((system.busy(), system.log()[-1]))
                return tuple.__eq__(self, other)

            __hash__ = tuple.__hash__

        system.tell(p("u"))
        system.tell(Watched(p("v")))
        self.assertEqual(seen, [(True, ("begin", "tell"))])
        self.assertIs(system.busy(), False)


class Asked(unittest.TestCase):
    def system(self, *texts, assumed=(), ranking=UV):
        system = System(ranking)
        for one in polynomials_of(*texts):
            system.tell(one)
        for one in polynomials_of(*assumed):
            system.assume(one)
        return system

    def test_leaves_and_chains(self):
        system = self.system("u*v", "u.x - 1", assumed=("v.x^2 - v",))
        self.assertEqual(system.leaves(), cases(UV, polynomials_of("u*v", "u.x - 1", "v.x^2 - v")))
        system = self.system("u*v")
        self.assertEqual(system.chain(0), chain("v = 0"))
        self.assertEqual(system.chain(case=1), chain("u = 0"))
        self.assertEqual(self.system().chain(0), ())

    def test_numbers_of_leaves(self):
        # A contradiction, a knot, and a CHAIN.
        texts = ("u*v.x^2 - u*v", "w.x*u.x - w.x")
        system = System(("total", ("u", "v", "w"), ("x", "y")))
        for one in polynomials_of(*texts):
            system.tell(one)
        words = [word for word, _, _, _ in system.leaves()]
        system.assume(p("1"))
        self.assertEqual([word for word, _, _, _ in system.leaves()], ["contradiction"])
        calls = (system.chain, system.jet, system.counts)
        for call in calls:
            with self.assertRaises(Contradicted) as caught:
                call(0)
            self.assertEqual(caught.exception.number, 0)
        system.drop()
        self.assertIn("knot", words)
        for call in calls:
            with self.assertRaises(Knotted) as caught:
                call(words.index("knot"))
            self.assertEqual(caught.exception.number, words.index("knot"))
            for thing in (*things(), -1, len(words), True):
                if isinstance(thing, int) and not isinstance(thing, bool) and 0 <= thing < len(words):
                    continue
                with self.assertRaises(NoCase) as caught:
                    call(thing)
                self.assertIs(caught.exception.number, thing)

    def test_jets_and_counts(self):
        system = self.system("u.xx - u.y")
        data = ((d("u"), (1, 2)), (d("u.y"), (3, 1)))
        self.assertEqual(system.jet(0), jet_of(UV, chain("u.xx = u.y")))
        self.assertEqual(system.jet(0, data=data), jet_of(UV, chain("u.xx = u.y"), data=data, length=4))
        self.assertEqual(system.jet(case=0, data=data, length=2), jet_of(UV, chain("u.xx = u.y"), data=data, length=2))
        self.assertEqual(system.counts(0), counts(UV, chain("u.xx = u.y")))
        self.assertEqual(system.counts(case=0, many=3), counts(UV, chain("u.xx = u.y"), many=3))
        for call, kind in (
            (lambda: system.jet(0, data=((d("u.xx"), (1, 1)),), length=99), BadData),
            (lambda: system.jet(0, data=(), length=9), OutOfPlace),
            (lambda: system.jet(7, data=None, length=None), NoCase),
            (lambda: system.counts(0, many=14), OutOfPlace),
            (lambda: system.counts(7, many=None), NoCase),
        ):
            with self.assertRaises(kind):
                call()
        with self.assertRaises(TypeError):
            system.jet(0, data)
        with self.assertRaises(TypeError):
            system.counts(0, 3)
        system.rank(("names", ("u", "v"), ("x", "y")))
        with self.assertRaises(OutOfPlace):
            system.counts(0)

    def test_words_and_papers(self):
        system = self.system("u*v", assumed=("u.x",))
        for text in ("u.x", "u*v.x", "u", "v", "0", "1"):
            told = system.word_of(p(text))
            self.assertEqual(told, word_of(UV, system.equations(), p(text)))
            paper = system.follows_paper(p(text))
            self.assertEqual(check_follows(UV, system.equations(), p(text), paper), told)
        self.assertEqual(system.word_of(polynomial=p("u.x")), "holds")
        self.assertEqual(system.follows_paper(polynomial=p("1"))[0], "breaks")
        system = self.system("u.x^2 - u")
        self.assertEqual(system.word_of(p("u")), "open")
        self.assertIsNone(system.follows_paper(p("u")))

    def test_refusals_ahead_of_too_great(self):
        system = self.system("u^9")
        for call in (system.word_of, system.follows_paper):
            for thing in NO_POLYNOMIALS:
                with self.assertRaises(BadPolynomial) as caught:
                    call(thing)
                self.assertIsNone(caught.exception.number)
            with self.assertRaises(TooGreat):
                call(p("u"))
        for call in (system.chain, system.jet, system.counts):
            for case in (0, 5, None):
                with self.assertRaises(TooGreat):
                    call(case)
        with self.assertRaises(TooGreat):
            system.leaves()

    def test_as_made_anew(self):
        chance = random.Random(721)
        some = [p(text) for text in ("u*v", "u.x - v", "u.y", "v.x", "u.x*v", "u^2 - u", "v.y - u", "u.xx - u.y")]
        for _ in range(12):
            system = System(UV)
            for _ in range(25):
                word = chance.choice(("tell", "tell", "take", "assume", "drop", "rank", "undo", "redo", "ask"))
                try:
                    if word in ("undo", "redo", "drop"):
                        getattr(system, word)()
                    elif word == "ask":
                        system.leaves()
                    elif word == "take":
                        system.take(chance.randint(0, 6))
                    elif word == "rank":
                        system.rank(chance.choice((UV, NAMES)))
                    else:
                        getattr(system, word)(chance.choice(some))
                except (Nothing, NoEquation, Twice, TooGreat):
                    pass
            other = anew(system)
            self.assertEqual(other.equations(), system.equations())
            for call in (
                lambda one: one.leaves(),
                lambda one: one.chain(0),
                lambda one: one.jet(0, length=2),
                lambda one: one.counts(0),
                lambda one: [one.word_of(every) for every in some],
                lambda one: one.follows_paper(p("u.x")),
            ):
                told = []
                for one in (system, other):
                    try:
                        told.append(call(one))
                    except (ChainError, MissError, Contradicted, Knotted) as wrong:
                        told.append((type(wrong), getattr(wrong, "number", None)))
                self.assertEqual(told[0], told[1])


class Owned(unittest.TestCase):
    def test_what_is_told_may_be_changed(self):
        system = System(UV)
        system.tell(p("u*v"))
        system.assume(p("u"))
        for call in (system.told, system.edits, system.log, lambda: system.counts(0)):
            before = list(call())
            call().append(None)
            self.assertEqual(call(), before)
            call().clear()
            self.assertEqual(call(), before)

    def test_copies(self):
        system = System(UV)
        system.tell(p("u"))
        system.tell(p("v"))
        system.assume(p("u.x"))
        system.undo()
        with self.assertRaises(Twice):
            system.tell(p("u"))
        other = system.copied()
        self.assertIs(type(other), System)
        self.assertEqual(shown(other), shown(system))
        self.assertEqual(other.log(), system.log())
        # What is UNDONE and the next NUMBER, too.
        self.assertEqual(other.redo(), ("assume", p("u.x")))
        self.assertEqual(system.assumed(), ())
        self.assertEqual(other.tell(p("u.y")), 2)
        self.assertEqual(system.tell(p("v.y")), 2)
        self.assertEqual(len(system.log()) + 2, len(other.log()))
        with self.assertRaises(Nothing):
            system.redo()
        for _ in range(4):
            other.undo()
        self.assertEqual((len(other), len(system)), (0, 3))
        self.assertEqual(system.undo(), ("tell", p("v.y")))
        other.rank(NAMES)
        self.assertEqual(system.ranking(), UV)

    def test_equality(self):
        one, other = System(UV), System(UV)
        self.assertTrue(one == other)
        one.tell(p("u"))
        self.assertFalse(one == other)
        self.assertTrue(one != other)
        other.many((("tell", p("u")), ("assume", p("v"))))
        self.assertFalse(one == other)
        other.drop()
        self.assertTrue(one == other)
        # What was done ahead doesn't count, nor the next NUMBER.
        other.tell(p("v"))
        other.take(1)
        self.assertTrue(one == other)
        # NUMBERS of those TOLD count.
        other.take(0)
        other.tell(p("u"))
        self.assertFalse(one == other)
        one.undo()
        self.assertTrue(one == System(UV))
        one.rank(NAMES)
        self.assertFalse(one == System(UV))
        for thing in things():
            if not isinstance(thing, (Odd, Yes)):
                self.assertFalse(one == thing)
            self.assertIs(one.__eq__(thing), False)

    def test_shown(self):
        system = System(UV)
        self.assertEqual((repr(system), str(system), len(system)), ("System(0, 0)", "System(0, 0)", 0))
        system.many((("tell", p("u")), ("tell", p("v")), ("assume", p("u"))))
        self.assertEqual((repr(system), str(system), len(system)), ("System(2, 1)", "System(2, 1)", 2))
        system.take(0)
        self.assertEqual(f"{system}", "System(1, 1)")


if __name__ == "__main__":
    unittest.main()
