"""rankedchains.systemtext: EDITS in words, SYSTEMS as texts [80], [81]."""

import random
import unittest

from rankedchains.errors import BadPolynomial, BadRow, TooGreat, Twice
from rankedchains.polytext import poly_text
from rankedchains.system import System
from rankedchains.systemtext import edit_text, read_edit, read_system, system_text
from systems import NAMES, ONE_AXIS, UV, YX_NAMES, some_polynomial
from things import p, things

RANKINGS = (
    (("total", ("u",), ("x",)), "total u / x"),
    (("names", ("u", "v", "w"), ("x", "y")), "names u v w / x y"),
    (("total", ("v", "u"), ("y", "x")), "total v u / y x"),
    (("names", ("x", "total"), ("x",)), "names x total / x"),
    (("total", ("abcdefgh",), ("x", "y")), "total abcdefgh / x y"),
)
# Rows of a RANKING that can't stand, with the first word, behind the "rank" as word 1, that can't.
BAD_RANKS = (
    ("", 2),
    ("totals", 2),
    ("Total u / x", 2),
    ("u total / x", 2),
    ("total", 3),
    ("total /", 3),
    ("total / x", 3),
    ("total u", 4),
    ("total u v", 5),
    ("total u v w", 6),
    ("total u v w t / x", 6),
    ("total u v w x / x", 6),
    ("total u u / x", 4),
    ("total u v u / x", 5),
    ("total U / x", 3),
    ("total abcdefghi / x", 3),
    ("total u1 / x", 3),
    ("total u, v / x", 3),
    ("total u /", 5),
    ("total u / z", 5),
    ("total u / x z", 6),
    ("total u / x x", 6),
    ("total u / y", 6),
    ("total u / y y", 6),
    ("total u / y z", 6),
    ("total u / x y x", 7),
    ("total u / y x y", 7),
    ("total u / x /", 6),
    ("total u / / x", 5),
    ("total u / xy", 5),
    ("total u v w / y", 8),
)
# POLYNOMIALS that can't stand, with the first word, behind the first one as word 1, that can't.
BAD_POLYNOMIALS = (
    ("", 2),
    ("+ u", 2),
    ("u +", 4),
    ("u v", 3),
    ("u + - v", 4),
    ("u + -v", 4),
    ("u - v ; w", 5),
    ("u.z", 2),
    ("1000*u", 2),
    ("u + u^0", 4),
    ("U", 2),
)


class Edits(unittest.TestCase):
    def test_written_and_read(self):
        for edit, text in (
            (("tell", p("-1/2*v + u.xy")), "tell u.xy - 1/2*v"),
            (("tell", ()), "tell 0"),
            (("take", 0), "take 0"),
            (("take", 907), "take 907"),
            (("assume", p("-u^2")), "assume -u^2"),
            (("drop",), "drop"),
            *((("rank", ranking), "rank " + text) for ranking, text in RANKINGS),
        ):
            self.assertEqual(edit_text(edit), text)
            self.assertEqual(read_edit(text.split(" ")), edit)
        self.assertEqual(edit_text(edit=("drop",)), "drop")
        self.assertEqual(read_edit(words=["drop"]), ("drop",))

    def test_many(self):
        edits = (("tell", p("u")), ("drop",), ("take", 3), ("rank", UV))
        self.assertEqual(edit_text(("many", edits)), "tell u ; drop ; take 3 ; rank total u v / x y")
        self.assertEqual(edit_text(("many", edits[:1])), "tell u")
        self.assertIsNone(read_edit(edit_text(("many", edits)).split(" ")))

    def test_of_any_polynomials(self):
        chance = random.Random(801)
        for _ in range(60):
            one = some_polynomial(chance, UV)
            for word in ("tell", "assume"):
                self.assertEqual(edit_text((word, one)), f"{word} {poly_text(one)}")
                self.assertEqual(read_edit(edit_text((word, one)).split(" ")), (word, one))

    def test_read_as_they_stand(self):
        for text, edit in (
            ("tell u + u", ("tell", p("2*u"))),
            ("tell 007*u.yx", ("tell", p("7*u.xy"))),
            ("assume u - u", ("assume", ())),
            ("take 10", ("take", 10)),
            ("take 999", ("take", 999)),
        ):
            self.assertEqual(read_edit(text.split(" ")), edit)

    def test_none(self):
        for text in (
            "take",
            "take 00",
            "take 01",
            "take 007",
            "take 1000",
            "take -1",
            "take +1",
            "take 1.0",
            "take u",
            "take 1 2",
            "take 1/1",
            "drop 0",
            "drop drop",
            "undo",
            "redo",
            "many",
            "many drop",
            "tells u",
            "Tell u",
            "text",
            ";",
            "drop ;",
            "; drop",
            *("tell " + text for text, _ in BAD_POLYNOMIALS if text),
            *("assume " + text for text, _ in BAD_POLYNOMIALS if text),
            *("rank " + text for text, _ in BAD_RANKS if text),
            "tell",
            "assume",
            "rank",
        ):
            self.assertIsNone(read_edit(text.split(" ")), text)
        for words in ([], [""], ["", ""], ["tell", ""], ["tell", "u + v"], ["tell u"], ["take", ""], ["take", "1 "], ["drop", ""], ["take", "1\n"], ["tell", "u\n"], ["rank", "total", "u", "/", "x", ""]):
            self.assertIsNone(read_edit(words), words)

    def test_words_stay(self):
        words = ["tell", "u", "+", "v"]
        read_edit(words)
        self.assertEqual(words, ["tell", "u", "+", "v"])


class Texts(unittest.TestCase):
    def test_by_hand(self):
        system = System(NAMES)
        self.assertEqual(system_text(system), "rank names u v w / x y")
        system.tell(p("u*v"))
        system.tell(p("w.xy - 1"))
        system.tell(p("u"))
        system.take(1)
        system.assume(p("v"))
        system.assume(p("u"))
        self.assertEqual(system_text(system=system), "rank names u v w / x y\ntell u*v\ntell u\nassume v\nassume u")
        other = read_system(system_text(system))
        self.assertEqual(other.told(), [(0, p("u*v")), (1, p("u"))])
        self.assertEqual(other.assumed(), (p("v"), p("u")))
        self.assertEqual(other.ranking(), NAMES)
        self.assertEqual(other.equations(), system.equations())
        self.assertIs(type(other), System)
        self.assertEqual(read_system(text="rank total u / x"), System(("total", ("u",), ("x",))))

    def test_rankings(self):
        for ranking, text in RANKINGS:
            self.assertEqual(system_text(System(ranking)), "rank " + text)
            self.assertEqual(read_system("rank " + text).ranking(), ranking)

    def test_written_and_read_back(self):
        chance = random.Random(811)
        for ranking in (UV, NAMES, ONE_AXIS, YX_NAMES) * 8:
            system = System(ranking)
            for _ in range(chance.randint(0, 8)):
                one = some_polynomial(chance, ranking)
                if one not in [polynomial for _, polynomial in system.told()]:
                    system.tell(one)
            for _ in range(chance.randint(0, 4)):
                one = some_polynomial(chance, ranking)
                if one not in system.assumed():
                    system.assume(one)
            if system.told() and chance.random() < 0.5:
                system.take(chance.choice(system.told())[0])
            other = read_system(system_text(system))
            self.assertEqual(other.equations(), system.equations())
            self.assertEqual(other.assumed(), system.assumed())
            self.assertEqual(other.ranking(), system.ranking())
            self.assertEqual([number for number, _ in other.told()], list(range(len(system))))
            self.assertEqual(system_text(other), system_text(system))

    def test_as_the_edits_are_done(self):
        system = read_system("rank total u v / x\ntell u\ntell v\nassume u")
        self.assertEqual(system.edits(), [("tell", p("u")), ("tell", p("v")), ("assume", p("u"))])
        self.assertEqual(system.undo(), ("assume", p("u")))
        self.assertEqual(system.tell(p("u.x")), 2)


class Refused(unittest.TestCase):
    def refused(self, text, row, word):
        with self.assertRaises(BadRow) as caught:
            read_system(text)
        self.assertEqual((caught.exception.row, caught.exception.word), (row, word), text)

    def test_no_text(self):
        for thing in things():
            if not isinstance(thing, str):
                self.refused(thing, 0, 0)

    def test_blanks(self):
        for row in ("", " ", " rank total u / x", "rank total u / x ", "rank  total u / x", "rank total u /  x"):
            self.refused(row, 1, 0)
            self.refused(row + "\nnothing", 1, 0)
        head = "rank total u v / x y"
        for row in ("", " ", " tell u", "tell u ", "tell  u", "tell u  + v", " assume u", "  "):
            self.refused(f"{head}\n{row}", 2, 0)
            self.refused(f"{head}\ntell u\n{row}\ntell", 3, 0)
        self.refused(head + "\n", 2, 0)
        self.refused(head + "\n\ntell u", 2, 0)
        self.refused("\n" + head, 1, 0)

    def test_rows_of_another_sort(self):
        for row in ("tell u", "assume u", "drop", "take 0", "ranks total u / x", "u", ";", "Rank total u / x", "rank\ttotal"):
            self.refused(row, 1, 1)
        head = "rank total u v / x y"
        for row in ("rank total u v / x y", "drop", "take 0", "tells u", "undo", "u + v", "system", "many", "-"):
            self.refused(f"{head}\n{row}", 2, 1)
            self.refused(f"{head}\ntell u\n{row}", 3, 1)
            self.refused(f"{head}\ntell u\nassume u\n{row}", 4, 1)
        self.refused(f"{head}\nassume u\ntell v", 3, 1)
        self.refused(f"{head}\nassume u\ntell", 3, 1)
        self.refused(f"{head}\ntell v\nassume u\nassume v\ntell u\ntell u", 5, 1)

    def test_words_of_a_ranking(self):
        for text, word in BAD_RANKS:
            self.refused("rank " + text if text else "rank", 1, word)
            self.refused(("rank " + text if text else "rank") + "\n ", 1, word)

    def test_words_of_polynomials(self):
        for text, word in BAD_POLYNOMIALS:
            for sort in ("tell", "assume"):
                row = f"{sort} {text}" if text else sort
                self.refused(f"rank total u / x\n{row}", 2, word)
                self.refused(f"rank total u / x\ntell u\n{row}\n ", 3, word)

    def test_rows_ahead_of_edits(self):
        # The last row can't stand: that's told ahead of EDITS that are refused.
        self.refused("rank total u / x\ntell v\ntell u\ntell u\nassume", 5, 2)

    def test_as_the_edits_are(self):
        for text, kind in (
            ("rank total u / x\ntell v", BadPolynomial),
            ("rank total u / x\ntell u.y", BadPolynomial),
            ("rank total u / x\nassume u*v", BadPolynomial),
            ("rank total u / x\ntell u\ntell u", Twice),
            ("rank total u / x\ntell 2*u\ntell u + u", Twice),
            ("rank total u / x\nassume u\nassume u", Twice),
            ("rank total u / x\ntell u\ntell u\ntell v", Twice),
            ("rank total u / x\ntell v\ntell u\ntell u", BadPolynomial),
            ("rank total u / x\n" + "\n".join(f"tell u^{number}" for number in range(1, 10)), TooGreat),
            ("rank total u / x\n" + "\n".join(f"assume u^{number}" for number in range(1, 6)), TooGreat),
        ):
            with self.assertRaises(kind) as caught:
                read_system(text)
            self.assertIs(type(caught.exception), kind)
        with self.assertRaises(BadPolynomial) as caught:
            read_system("rank total u / x\ntell u\ntell v")
        self.assertIsNone(caught.exception.number)
        system = read_system("rank total u / x\ntell u\nassume u")
        self.assertEqual((system.told(), system.assumed()), ([(0, p("u"))], (p("u"),)))


if __name__ == "__main__":
    unittest.main()
