"""COVER PAPERS: TREES of CASES with PAPER ROWS, made of what CASES told, looked at without any closing."""

from rankedchains.cases import case_tree, factors_in, is_great
from rankedchains.chains import equations_in, is_chain
from rankedchains.closingpaper import is_row, paper_of, paper_of_pending, rows_on
from rankedchains.errors import BadChain, BadPaper, TooGreat
from rankedchains.normal import Putting
from rankedchains.polynomials import is_number
from rankedchains.spans import need_equations

# How many things a TREE of each word is.
TREE_SIZES = {"split": 4, "closed": 4, "knot": 4, "contradiction": 3}


def cover_paper(ranking, equations):
    """A TREE whose leaves, from the left, have the words and CHAINS of CASES."""
    need_equations(ranking, equations)
    whole, _ = case_tree(ranking, equations)
    return tree_of(whole, [])


def tree_of(case, pending_places):
    """The TREE of a CASE; of each knot the rows of what is PENDING join a list of tuples of their numbers."""
    if case.within:
        rows, places = paper_of_pending(case.closer, case.there, case.split_row)
        return ("split", rows, places[0], tuple([tree_of(part, pending_places) for part in case.within]))
    word, _, chain, _ = case.leaf()
    rows, places = paper_of(case.closer, case.there)
    if word == "contradiction":
        return (word, rows, places[0])
    if word == "knot":
        pending_places.append(places[len(chain) :])
    return (word, rows, chain, places[: len(chain)])


class Cover:
    """A TREE looked at: its leaves (WORD, CHAIN, POLYNOMIALS of its rows), from the left.

    What is too great to be told is passed over, and told at the end: a part that isn't so is told ahead of it.
    """

    def __init__(self, ranking):
        self.ranked_by = ranking
        self.ended = []
        self.great = False

    def look(self, equations, tree):
        """Refuses the first part of a TREE that isn't so, each ahead of those within it."""
        waiting = [((), equations, tree)]
        while waiting:
            way, there, part = waiting.pop()
            if not _is_tree(part):
                raise BadPaper((way, "form"))
            found = self.rows_found(there, part[1])
            wrong = "rows" if found is None else self.misfit(there, part, found)
            if wrong is not None:
                raise BadPaper((way, wrong))
            if part[0] == "split":
                parts = factors_in(self.ranked_by, found[part[2]])
                within = [((*way, at), (*there, one), part[3][at]) for at, one in enumerate(parts)]
                waiting.extend(within[::-1])
            else:
                self.ended.append((part[0], () if part[0] == "contradiction" else part[2], found))

    def rows_found(self, there, rows):
        """A list of the POLYNOMIALS to which PAPER ROWS come, None of what are none."""
        try:
            return rows_on(self.ranked_by, there, rows)
        except BadPaper:
            return None

    def misfit(self, there, part, found):
        """The word of the first thing behind the rows that isn't so, or None."""
        if part[0] == "split":
            return self.split_misfit(part, found)
        if part[0] == "contradiction":
            row = found[part[2]] if is_row(found, part[2]) else ()
            return None if row != () and is_number(row) else "row"
        _, _, chain, places = part
        if not self.is_chain_there(part[0], chain):
            return "chain"
        if not _are_places(found, places, equations_in(chain)):
            return "row"
        if part[0] == "closed" and not self.all_go_out(chain, there):
            return "equation"
        return None

    def split_misfit(self, part, found):
        """The word of the first thing of a "split" that isn't so, or None."""
        _, _, number, trees = part
        parts = factors_in(self.ranked_by, found[number]) if is_row(found, number) else ()
        if not parts:
            return "row"
        return None if isinstance(trees, tuple) and len(trees) == len(parts) else "trees"

    def is_chain_there(self, word, chain):
        """Whether there is a CHAIN, for "knot", or a CLOSED one."""
        if word == "knot":
            return is_chain(self.ranked_by, chain)
        try:
            self.great = is_great(self.ranked_by, chain) or self.great
        except BadChain:
            return False
        return True

    def all_go_out(self, chain, polynomials):
        """Whether all POLYNOMIALS GO OUT by a CHAIN, but those that are too great."""
        putting = Putting(self.ranked_by, chain)
        return all([self.have_one_form(putting, polynomial, ()) for polynomial in polynomials])

    def have_one_form(self, putting, polynomial, other):
        """Whether two POLYNOMIALS have one NORMAL FORM, or are too great."""
        try:
            return putting.form_of(polynomial) == putting.form_of(other)
        except TooGreat:
            self.great = True
            return True

    def need_told(self):
        """Refuses what was too great to be told."""
        if self.great:
            raise TooGreat("a paper has NORMAL FORMS that are too great")


def _is_tree(thing):
    """Whether anything is a TREE by its word and how many things."""
    if not isinstance(thing, tuple) or not thing or not isinstance(thing[0], str):
        return False
    return thing[0] in TREE_SIZES and len(thing) == TREE_SIZES[thing[0]]


def _are_places(found, places, due):
    """Whether anything is a tuple of the rows that are EQUATIONS, in their order."""
    if not isinstance(places, tuple) or len(places) != len(due):
        return False
    return all([is_row(found, place) and found[place] == one for place, one in zip(places, due)])


def check_cover(ranking, equations, paper):
    """A list of (WORD, CHAIN) of the leaves of a COVER PAPER, from the left; one that doesn't come out is refused."""
    need_equations(ranking, equations)
    cover = Cover(ranking)
    cover.look(equations, paper)
    cover.need_told()
    return [(word, chain) for word, chain, _ in cover.ended]
