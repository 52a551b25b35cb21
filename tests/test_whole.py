"""Over the whole program: what is told in one file bears out what is told in another one."""

import random
import unittest

from rankedchains.cases import cases, kept_leaves
from rankedchains.chains import equation_of
from rankedchains.counts import counts, counts_later
from rankedchains.coverpaper import check_cover, cover_paper
from rankedchains.desk import Desk
from rankedchains.elimination import alone
from rankedchains.errors import TooGreat
from rankedchains.follows import are_same, breaking, word_of
from rankedchains.followspaper import check_follows, follows_paper
from rankedchains.normal import goes_out
from rankedchains.polynomials import derived, less, of_derivative, plus, times
from rankedchains.polytext import poly_text
from rankedchains.series import jet_of, number_of
from rankedchains.system import System
from rankedchains.systemtext import edit_text, read_system, system_text
from rankedchains.taylor import first_fault, solves
from systems import NAMES, polynomials_of, some_data, some_polynomial, some_products, some_systems
from things import chain, p

TOTALS = [("total", names, axes) for names in (("u", "v"), ("v", "u")) for axes in (("x", "y"), ("y", "x"))]


def system_of(ranking, equations):
    system = System(ranking)
    for one in equations:
        system.tell(one)
    return system


class Series(unittest.TestCase):
    def test_what_holds_is_nought_by_all_series_of_closed_leaves(self):
        chance = random.Random(901)
        held = broken = 0
        for ranking, equations, leaves in some_products(902, 80):
            some = [*equations, derived(equations[0], "x"), some_polynomial(chance, ranking, 1)]
            some.append(times(some[-1], equations[-1]))
            for one in some:
                word = word_of(ranking, equations, one)
                paper = follows_paper(ranking, equations, one)
                if word == "open":
                    self.assertIsNone(paper)
                    continue
                self.assertEqual(check_follows(ranking, equations, one, paper), word)
                if word == "breaks":
                    broken += 1
                    _, pairs, data = paper
                    self.assertNotEqual(number_of(ranking, pairs, one, data=data), (0, 1))
                    jet = jet_of(ranking, pairs, data=data, length=4)
                    self.assertIsNone(first_fault(ranking, equations, jet))
                    self.assertIs(solves(ranking, one, jet), False)
                    continue
                held += 1
                for kind, assumed, pairs, _ in leaves:
                    if kind == "closed":
                        jet = jet_of(ranking, pairs, data=some_data(chance, ranking, pairs), length=4)
                        self.assertIsNone(first_fault(ranking, (*equations, *assumed, one), jet))
                        self.assertIsNone(breaking(ranking, pairs, one))
        self.assertGreater(min(held, broken), 50)

    def test_what_breaks_does_so_by_a_leaf(self):
        for ranking, equations, leaves in some_products(903, 40):
            for kind, _, pairs, _ in leaves:
                if kind == "closed":
                    for one in (of_derivative((ranking[1][0], 1, 0)), equation_of(ranking, pairs[0]) if pairs else ()):
                        data = breaking(ranking, pairs, one)
                        self.assertIs(data is None, goes_out(ranking, pairs, one))
                        if data is not None:
                            self.assertEqual(word_of(ranking, equations, one), "breaks")


class Orders(unittest.TestCase):
    """What is told in any order, by other RANKINGS, undone and done again."""

    def test_in_any_order(self):
        chance = random.Random(904)
        for ranking, equations, leaves in some_products(905, 50):
            if len(set(equations)) < len(equations):
                continue
            some = list(equations)
            chance.shuffle(some)
            system = system_of(ranking, some)
            self.assertEqual(system.leaves(), leaves)
            system.many(tuple(("take", number) for number, _ in system.told()))
            for one in equations[::-1]:
                system.assume(one)
            self.assertEqual(system.leaves(), leaves)
            self.assertEqual(kept_leaves(ranking, equations), kept_leaves(ranking, system.equations()))

    def test_undone_and_done_again(self):
        chance = random.Random(906)
        for ranking, equations, leaves in some_products(907, 30):
            if len(set(equations)) < len(equations):
                continue
            system = system_of(ranking, equations)
            one = some_polynomial(chance, ranking, 1)
            due = system.word_of(one), system.leaves(), system.follows_paper(one)
            system.assume(some_polynomial(chance, ranking, 1, 2, 1))
            try:
                system.leaves()
            except TooGreat:
                pass
            system.undo()
            self.assertEqual((system.word_of(one), system.leaves(), system.follows_paper(one)), due)
            for _ in equations:
                system.undo()
            self.assertEqual(system.leaves(), cases(ranking, ()))
            for _ in equations:
                system.redo()
            self.assertEqual((system.word_of(one), system.leaves(), system.follows_paper(one)), due)

    def test_what_is_said_of_more_and_less(self):
        # What HOLDS never BREAKS where more is told or assumed, what BREAKS never HOLDS where one goes.
        chance = random.Random(908)
        words = []
        for ranking, equations, _ in some_products(909, 60):
            system = System(ranking)
            one = chance.choice([some_polynomial(chance, ranking, 1), derived(equations[0], "x"), equations[-1]])
            ahead = system.word_of(one)
            for told in dict.fromkeys(equations):
                chance.choice((system.tell, system.assume))(told)
                try:
                    behind = system.word_of(one)
                except TooGreat:
                    break
                self.assertNotEqual((ahead, behind), ("holds", "breaks"))
                words.append((ahead, behind))
                ahead = behind
        self.assertIn(("breaks", "holds"), words)

    def test_counts_by_other_rankings(self):
        found = 0
        for ranking, equations, told in some_systems(910, 120):
            if told[0] != "closed" or ranking[1] != ("u", "v") or len(ranking[2]) != 2:
                continue
            seen = []
            for other in TOTALS:
                try:
                    leaves = cases(other, equations)
                except TooGreat:
                    continue
                if [leaf[0] for leaf in leaves] == ["closed"]:
                    pairs = leaves[0][2]
                    seen.append((counts(other, pairs, many=10), counts_later(other, pairs)))
            if len(seen) > 1:
                found += 1
                self.assertEqual(seen, [seen[0]] * len(seen))
        self.assertGreater(found, 20)

    def test_words_by_other_rankings(self):
        chance = random.Random(911)
        found = []
        for ranking, equations, leaves in some_products(912, 60):
            if ranking[1] != ("u", "v") or len(ranking[2]) != 2 or len(set(equations)) < len(equations):
                continue
            one = chance.choice([some_polynomial(chance, ranking, 1), derived(equations[0], "y")])
            system = system_of(ranking, equations)
            words = []
            for other in (*TOTALS, ("names", ("u", "v"), ("x", "y")), ("names", ("v", "u"), ("x", "y"))):
                system.rank(other)
                try:
                    if all(leaf[0] != "knot" for leaf in system.leaves()):
                        words.append(system.word_of(one))
                except TooGreat:
                    pass
            self.assertEqual(len(set(words)), min(len(words), 1))
            found.append(len(words) > 3)
        self.assertGreater(found.count(True), 10)

    def test_the_same_by_other_rows(self):
        for ranking, equations, leaves in some_products(913, 40):
            if any(leaf[0] == "knot" for leaf in leaves) or len(equations) < 2:
                continue
            some = (plus(equations[0], equations[1]), less(equations[0], equations[1]), *equations[2:])
            self.assertIs(are_same(ranking, equations, some), True)
            self.assertEqual(cases(ranking, some), leaves)


class Papers(unittest.TestCase):
    def test_cover_papers_are_of_the_equations_alone(self):
        for ranking, equations, leaves in some_products(914, 30):
            paper = cover_paper(ranking, equations)
            self.assertEqual([word for word, _ in check_cover(ranking, equations, paper)], [leaf[0] for leaf in leaves])

    def test_alone_tells_what_follows(self):
        # u.x = v, v.y = u, by "names": what follows for v alone is v.xy = v.
        ranking = ("names", ("u", "v"), ("x", "y"))
        leaves = cases(ranking, polynomials_of("u.x - v", "v.y - u"))
        own, pairs = alone(ranking, leaves[0][2], 1)
        self.assertEqual((own, pairs), (("names", ("v",), ("x", "y")), chain("v.xy = v")))
        self.assertEqual(word_of(ranking, polynomials_of("u.x - v", "v.y - u"), p("v.xy - v")), "holds")


class Texts(unittest.TestCase):
    def test_a_desk_tells_what_a_system_tells(self):
        chance = random.Random(915)
        for ranking, equations, leaves in some_products(916, 40):
            if ranking[1] == NAMES[1] or len(set(equations)) < len(equations):
                continue
            system, desk = System(ranking), Desk()
            self.assertEqual(desk.say("system " + system_text(system)), "done")
            for one in equations:
                edit = chance.choice((("tell", one), ("assume", one)))
                system.do(edit)
                desk.say(edit_text(edit))
            self.assertEqual(desk.system(), system)
            self.assertEqual(desk.say("leaves"), " ".join(leaf[0] for leaf in system.leaves()))
            one = some_polynomial(chance, ranking, 1)
            self.assertEqual(desk.say("follows " + poly_text(one)), system.word_of(one))
            self.assertEqual(desk.say("text").replace(" ; ", "\n"), system_text(system))
            other = read_system(system_text(system))
            self.assertEqual(other.leaves(), system.leaves())
            for at, leaf in enumerate(system.leaves()):
                told = desk.say(f"normal {at} {poly_text(one)}")
                due = {"contradiction": f"refused contradicted {at}", "knot": f"refused knotted {at}"}.get(leaf[0])
                self.assertIn(told, [due] if due else [told])


if __name__ == "__main__":
    unittest.main()
