"""rankedchains.desk: lines and their answers [82] to [84]."""

import unittest

from rankedchains.cases import cases, kept_leaves
from rankedchains.counts import counts
from rankedchains.desk import Desk
from rankedchains.freedoms import free_to
from rankedchains.normal import normal
from rankedchains.polynomials import of_derivative
from rankedchains.polytext import derivative_text, poly_text
from rankedchains.series import number_of
from rankedchains.system import System
from rankedchains.systemtext import read_system, system_text
from things import d, p, things

FIRST = ("total", ("u",), ("x",))
HEAT = "system rank total u v / x y ; tell u.xx - u.y"
# A CHAIN, a knot, and, by what is ASSUMED, contradictions.
SORTS = "system rank total u v w / x y ; tell u*v*w.x^2 - u*v*w ; tell v*u.x - v"


def shown(desk):
    system = desk.system()
    return system.ranking(), system.told(), system.assumed(), system.edits()


class Said(unittest.TestCase):
    def said(self, desk, *rows):
        for line, due in rows:
            self.assertEqual(desk.say(line), due, line)

    def desk(self, *lines):
        desk = Desk()
        for line in lines:
            self.assertNotIn(desk.say(line).split(" ")[0], ("refused", "no"), line)
        return desk


class Lines(Said):
    def test_at_first(self):
        desk = Desk()
        self.assertEqual(desk.system(), System(FIRST))
        self.assertEqual(desk.system().log(), [])
        self.said(desk, ("text", "rank total u / x"), ("told", "none"), ("leaves", "closed"), ("kept", "0"))
        self.assertEqual(desk.say(line="text"), "rank total u / x")

    def test_edits(self):
        desk = Desk()
        self.said(
            desk,
            ("tell u.x - u", "0"),
            ("tell 2*u", "1"),
            ("told", "0 -u + u.x, 1 2*u"),
            ("take 1", "2*u"),
            ("assume u.xx", "done"),
            ("assume u^2", "done"),
            ("text", "rank total u / x ; tell -u + u.x ; assume u.xx ; assume u^2"),
            ("drop", "u^2"),
            ("rank names u / x", "done"),
            ("tell 0", "2"),
            ("undo", "done"),
            ("undo", "done"),
            ("text", "rank total u / x ; tell -u + u.x ; assume u.xx"),
            ("redo", "done"),
            ("redo", "done"),
            ("redo", "refused nothing"),
            ("text", "rank names u / x ; tell -u + u.x ; tell 0 ; assume u.xx"),
            ("take 2", "0"),
        )
        self.assertEqual(len(desk.system().log()), 28)

    def test_texts_as_they_stand(self):
        desk = Desk()
        self.said(
            desk,
            ("tell -007/10*u.xx + u - u", "0"),
            ("told", "0 -7/10*u.xx"),
            ("tell 0*u", "1"),
            ("told", "0 -7/10*u.xx, 1 0"),
            ("assume u.x*u.x", "done"),
            ("drop", "u.x^2"),
        )

    def test_many(self):
        desk = Desk()
        self.said(
            desk,
            ("tell u ; tell u.x ; take 0", "done"),
            ("told", "1 u.x"),
            ("undo", "done"),
            ("told", "none"),
            ("redo", "done"),
            ("told", "1 u.x"),
            ("assume u ; drop ; drop", "refused nothing"),
            ("assume u ; tell u.x", "refused twice"),
            ("text", "rank total u / x ; tell u.x"),
            (" ; ".join(f"assume u^{number}" for number in range(1, 5)) + " ; drop ; drop ; drop ; drop", "done"),
            (" ; ".join(["assume u", "drop"] * 4 + ["assume u"]), "no line"),
            ("tell u ; undo", "no line"),
            ("tell u ; text", "no line"),
            ("tell u ;", "no line"),
            ("; tell u", "no line"),
            ("tell u ; ; tell u.xx", "no line"),
            (";", "no line"),
            ("tell u; drop", "no line"),
            ("told", "1 u.x"),
        )
        self.assertEqual([edit[0] for edit in desk.system().edits()], ["many", "many"])

    def test_systems(self):
        desk = Desk()
        self.said(
            desk,
            ("system rank names v u / y x ; tell u*v ; tell v ; assume u.y", "done"),
            ("text", "rank names v u / y x ; tell u*v ; tell v ; assume u.y"),
            ("told", "0 u*v, 1 v"),
            ("system rank total u / x", "done"),
            ("text", "rank total u / x"),
        )
        self.assertEqual(desk.system(), System(FIRST))

    def test_systems_refused(self):
        desk = self.desk("tell u.x")
        for line, due in (
            ("system rank", "refused row 1 2"),
            ("system rank total", "refused row 1 3"),
            ("system rank total u /", "refused row 1 5"),
            ("system rank total u / y", "refused row 1 6"),
            ("system rank total u / x ;", "refused row 1 6"),
            ("system tell u", "refused row 1 1"),
            ("system text", "refused row 1 1"),
            ("system system", "refused row 1 1"),
            ("system ; rank total u / x", "refused row 1 1"),
            ("system rank total u / x ; drop", "refused row 2 1"),
            ("system rank total u / x ; tell", "refused row 2 2"),
            ("system rank total u / x ; tell u ; tell u +", "refused row 3 4"),
            ("system rank total u / x ; assume u ; tell u", "refused row 3 1"),
            ("system rank total u / x ; ; tell u", "refused row 2 1"),
            ("system rank total u / x ; tell v", "refused polynomial"),
            ("system rank total u / x ; tell u ; tell u", "refused twice"),
            ("system rank total u / x ; " + " ; ".join(f"tell u^{number}" for number in range(1, 10)), "refused great"),
            ("system", "no line"),
            ("systems rank total u / x", "no line"),
            ("system  rank total u / x", "no line"),
            ("system rank total u / x\ntell u", "no line"),
            ("system rank total u / x ", "no line"),
        ):
            self.said(desk, (line, due), ("text", "rank total u / x ; tell u.x"))

    def test_undo_and_redo(self):
        desk = Desk()
        self.said(
            desk,
            ("undo", "refused nothing"),
            ("redo", "refused nothing"),
            ("tell u", "0"),
            ("undo", "done"),
            ("tell v", "refused polynomial"),
            ("redo", "done"),
            ("undo now", "no line"),
            ("redo 1", "no line"),
        )


class Questions(Said):
    def test_text_and_told(self):
        desk = self.desk(HEAT, "assume v - 1/2")
        self.said(desk, ("text", HEAT.replace("system ", "").replace("u.xx - u.y", "-u.y + u.xx") + " ; assume -1/2 + v"))
        self.assertEqual(read_system(desk.say("text").replace(" ; ", "\n")), desk.system())
        self.assertEqual(system_text(desk.system()).replace("\n", " ; "), desk.say("text"))

    def test_leaves_and_kept(self):
        desk = self.desk(SORTS)
        leaves = cases(desk.system().ranking(), desk.system().equations())
        kept = kept_leaves(desk.system().ranking(), desk.system().equations())
        self.assertEqual(desk.say("leaves"), " ".join(leaf[0] for leaf in leaves))
        self.assertEqual(desk.say("kept"), " ".join(str(number) for number in kept))
        self.said(self.desk("tell u*u.x"), ("leaves", "closed closed"), ("kept", "1"))
        self.said(self.desk("tell 1"), ("leaves", "contradiction"), ("kept", "none"))
        self.said(self.desk("tell u.x^2 - u"), ("leaves", "knot"), ("kept", "0"))
        self.said(self.desk("tell u^9"), ("leaves", "refused great"), ("kept", "refused great"))

    def test_chains(self):
        self.said(
            self.desk(HEAT, "tell u*v"),
            ("leaves", "closed closed"),
            ("chain 0", "v = 0, u.xx = u.y"),
            ("chain 1", "u = 0"),
            ("chain 2", "refused case 2"),
            ("chain 00", "no line"),
            ("chain 0 1", "no line"),
            ("chain", "no line"),
            ("chain -1", "no line"),
            ("chain u", "no line"),
            ("chain 999", "refused case 999"),
            ("chain 1000", "no line"),
        )
        self.said(Desk(), ("chain 0", "none"))

    def test_what_is_free(self):
        desk = self.desk(HEAT)
        self.said(desk, ("free 0 0", "v, u"), ("free 0 1", "v, u, v.y, u.y, v.x, u.x"))
        system = desk.system()
        due = free_to(system.ranking(), system.chain(0), 12)
        self.assertEqual(desk.say("free 0 12"), ", ".join(derivative_text(one) for one in due))
        self.said(
            desk,
            ("free 0 13", "refused place"),
            ("free 0 999", "refused place"),
            ("free 0 01", "no line"),
            ("free 0", "no line"),
            ("free 0 1 2", "no line"),
            ("free 0 -1", "no line"),
            ("free 1 99", "refused case 1"),
            ("free 00 1", "no line"),
            ("free", "no line"),
        )
        self.said(self.desk("tell u"), ("free 0 3", "none"))

    def test_counts(self):
        desk = self.desk(HEAT)
        self.assertEqual(desk.say("counts 0"), "2 4 5 6")
        self.assertEqual(counts(desk.system().ranking(), desk.system().chain(0), many=4), [2, 4, 5, 6])
        self.said(desk, ("counts 1", "refused case 1"), ("counts", "no line"), ("counts 0 4", "no line"))
        self.said(desk, ("rank names u v / x y", "done"), ("counts 0", "refused place"), ("counts 4", "refused case 4"))

    def test_normal(self):
        desk = self.desk(HEAT)
        self.said(
            desk,
            ("normal 0 u.xxx + v - 1/2", "-1/2 + u.xy + v"),
            ("normal 0 u.xx - u.y", "0"),
            ("normal 0 w", "refused polynomial"),
            ("normal 1 w", "refused case 1"),
            ("normal 0", "no line"),
            ("normal", "no line"),
            ("normal u", "no line"),
            ("normal 0 u +", "no line"),
            ("normal 00 u", "no line"),
            ("normal 0 u^9*v^9", "refused great"),
        )
        system = desk.system()
        for text in ("u.xxxx*v", "u.xx^2 - u", "3"):
            self.assertEqual(desk.say("normal 0 " + text), poly_text(normal(system.ranking(), system.chain(0), p(text))))

    def test_numbers(self):
        desk = self.desk(HEAT)
        self.said(
            desk,
            ("number 0 u", "0"),
            ("number 0 u.xx ; u.y 3/4", "3/4"),
            ("number 0 u.xx ; u.y -3/4", "-3/4"),
            ("number 0 u.xxyx ; u.yy 6/4 ; u 9", "0"),
            ("number 0 u.xxxx ; v 1 ; u.yy 006/04 ; u 9", "3/2"),
            ("number 0 v.yx ; v.xy 999", "999"),
            ("number 0 u ; u -0", "0"),
            # In any order, but none twice, and only FREE ones.
            ("number 0 u ; v 1 ; u 2", "2"),
            ("number 0 u ; u 1 ; u 2", "refused data"),
            ("number 0 u ; u 1 ; v 3 ; u 1", "refused data"),
            ("number 0 u ; u.xx 1", "refused data"),
            ("number 0 u ; w 1", "refused data"),
            ("number 0 w", "refused place"),
            ("number 0 w ; w 1", "refused place"),
            ("number 3 w ; w 1", "refused case 3"),
            ("number 0", "no line"),
            ("number", "no line"),
            ("number u", "no line"),
            ("number 0 u^1", "no line"),
            ("number 0 2*u", "no line"),
            ("number 0 -u", "no line"),
            ("number 0 u.", "no line"),
            ("number 0 u.xxxxxxx", "no line"),
            ("number 0 u ;", "no line"),
            ("number 0 u ; u", "no line"),
            ("number 0 u u 1", "no line"),
            ("number 0 u , u 1", "no line"),
            ("number 0 u ; u 1 2", "no line"),
            ("number 0 u ; u 1 ; v", "no line"),
            ("number 0 u ; u^2 1", "no line"),
            ("number 0 u ; u +1", "no line"),
            ("number 0 u ; u --1", "no line"),
            ("number 0 u ; u -", "no line"),
            ("number 0 u ; u 1/0", "no line"),
            ("number 0 u ; u 1000", "no line"),
            ("number 0 u ; u 1/100", "no line"),
            ("number 0 u ; u 1/-2", "no line"),
            ("number 0 u ; 1 u", "no line"),
            ("number 00 u", "no line"),
        )
        system = desk.system()
        data = ((d("u.yy"), (1, 3)), (d("v"), (5, 1)))
        due = number_of(system.ranking(), system.chain(0), of_derivative(d("u.xxyy")), data=data)
        self.assertEqual(due, (0, 1))
        desk = self.desk("tell u.x - u^2")
        self.said(desk, ("number 0 u.xxxxxx ; u 99/7", f"{720 * 99**7}/{7**7}"))

    def test_follows_and_breaks(self):
        desk = self.desk(HEAT)
        self.said(
            desk,
            ("follows u.xxx - u.xy", "holds"),
            ("follows u", "breaks"),
            ("follows 0", "holds"),
            ("follows w", "refused polynomial"),
            ("follows", "no line"),
            ("follows u u", "no line"),
            ("follows u^9*v^9", "refused great"),
            ("breaks 0 u.xxx - u.xy", "none"),
            ("breaks 0 u", "u 1"),
            ("breaks 0 u.xx*v", "u.y 1, v 1"),
            ("breaks 0 1", "none"),
            ("breaks 0 w", "refused polynomial"),
            ("breaks 7 w", "refused case 7"),
            ("breaks 0", "no line"),
            ("breaks u", "no line"),
            ("breaks", "no line"),
            ("breaks 0 u^9*v^9", "refused great"),
        )
        self.said(self.desk("tell u.x^2 - u"), ("follows u", "open"), ("follows 3*u.x^2 - 3*u", "holds"))
        told = desk.say("breaks 0 u.xx*v - v*u + 1/2*u^2 - 1/2*u")
        rows = [row.split(" ") for row in told.split(", ")]
        asked = "".join(f" ; {derivative} {number}" for derivative, number in rows)
        numbers = {text: desk.say(f"number 0 {text}{asked}") for text in ("u.xx", "v", "u")}
        worth = {text: int(number) for text, number in numbers.items()}
        self.assertNotEqual(2 * worth["u.xx"] * worth["v"] - 2 * worth["v"] * worth["u"] + worth["u"] ** 2 - worth["u"], 0)

    def test_knots_and_contradictions(self):
        desk = self.desk("tell u.x^2 - u")
        for line in ("chain 0", "free 0 1", "counts 0", "normal 0 v", "number 0 v ; u 1", "breaks 0 v"):
            self.said(desk, (line, "refused knotted 0"))
        desk = self.desk("tell u*u.x - u", "assume u.xx - 1")
        self.assertEqual(desk.say("leaves"), "contradiction contradiction")
        for line in ("chain 1", "free 1 99", "counts 1", "normal 1 v", "number 1 v ; u 1", "breaks 1 v"):
            self.said(desk, (line, "refused contradicted 1"), (line.replace(" 1", " 2", 1), "refused case 2"))
        desk = self.desk("tell u^9")
        for line in ("chain 9", "free 9 99", "counts 9", "normal 9 v", "number 9 v ; u 1", "breaks 9 v", "follows u"):
            self.said(desk, (line, "refused great"))
        self.said(desk, ("follows v", "refused polynomial"), ("text", "rank total u / x ; tell u^9"), ("told", "0 u^9"))


class Refused(Said):
    def test_each_answer(self):
        desk = self.desk("tell u", "assume u.x")
        self.said(
            desk,
            ("tell v", "refused polynomial"),
            ("tell u.y", "refused polynomial"),
            ("assume v", "refused polynomial"),
            ("tell u", "refused twice"),
            ("assume u.x", "refused twice"),
            ("take 1", "refused equation 1"),
            ("take 999", "refused equation 999"),
            ("rank total u v / x", "refused place"),
            ("rank total u / x y", "refused place"),
            ("rank total v / x", "refused place"),
            ("drop", "u.x"),
            ("drop", "refused nothing"),
        )
        for number in range(1, 8):
            self.assertEqual(desk.say(f"tell u.xx^{number}"), str(number))
        self.said(desk, ("tell u.xxx", "refused great"), ("rank total u / y", "no line"), ("rank total u u / x", "no line"))

    def test_no_line(self):
        desk = self.desk("tell u.x - u")
        before = shown(desk), desk.system().log()
        for line in (
            "",
            " ",
            "  ",
            "text ",
            " text",
            "tell  u",
            "tell u ",
            " tell u",
            "text text",
            "told 0",
            "leaves 0",
            "kept 0",
            "Text",
            "tell",
            "assume",
            "take",
            "take u",
            "take 00",
            "take 0 1",
            "take 1000",
            "drop 0",
            "rank",
            "rank total",
            "rank total u / z",
            "tell u +",
            "tell u + -u",
            "tell U",
            "undo undo",
            "hello",
            "many drop",
            "begin",
            "tell u\n",
            "\ntext",
            "text\n",
            "text\ntold",
            "tell u\ntell u.xx",
            "follows u\n",
            "undo\n",
            *things(),
        ):
            self.assertEqual(desk.say(line), "no line", repr(line) if isinstance(line, str) else type(line))
            self.assertEqual((shown(desk), desk.system().log()), before)

    def test_the_desk_as_it_was(self):
        desk = self.desk("tell u.x - u", "assume u", "tell u.xx", "undo")
        before = shown(desk)
        for line in (
            "tell u.x - u",
            "tell v",
            "take 7",
            "drop ; drop",
            "rank total v / x",
            "tell u ; tell u.xxx ; tell v",
            "system rank total u / x ; tell v",
            "system rank total v / x ; tell",
            "normal 5 u",
            "follows v",
        ):
            self.assertEqual(desk.say(line).split(" ")[0], "refused", line)
            self.assertEqual(shown(desk), before)
        self.assertEqual(desk.say("redo"), "done")
        self.assertEqual(desk.say("told"), "0 -u + u.x, 1 u.xx")

    def test_the_copy_goes_on_by_itself(self):
        desk = self.desk("tell u")
        system = desk.system()
        system.tell(p("u.x"))
        system.undo()
        system.undo()
        self.assertEqual(desk.say("told"), "0 u")
        desk.say("take 0")
        self.assertEqual(system.redo(), ("tell", p("u")))
        self.assertEqual(desk.say("told"), "none")
        self.assertEqual(Desk().say("told"), "none")
        self.assertIsNot(desk.system(), desk.system())


if __name__ == "__main__":
    unittest.main()
