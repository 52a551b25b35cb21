"""FOLLOWS PAPERS: that a POLYNOMIAL holds by a COVER PAPER, or breaks by DATA."""

from rankedchains.cases import case_tree
from rankedchains.coverpaper import Cover, tree_of
from rankedchains.closingpaper import is_row
from rankedchains.errors import BadData, BadPaper
from rankedchains.follows import breaking_by, word_by
from rankedchains.leaders import need_one
from rankedchains.normal import Putting
from rankedchains.numbers import is_fraction
from rankedchains.polynomials import plus, scaled
from rankedchains.series import number_of
from rankedchains.spans import need_equations, span_of

WORDS = ("breaks", "holds")


def follows_paper(ranking, equations, polynomial):
    """A FOLLOWS PAPER of a POLYNOMIAL, None where it is "open"."""
    need_equations(ranking, equations)
    need_one(ranking, polynomial)
    return following(ranking, equations, polynomial)


def following(ranking, equations, polynomial):
    """A FOLLOWS PAPER, or None, of what are EQUATIONS and a POLYNOMIAL."""
    whole, leaves = case_tree(ranking, equations)
    word = word_by(ranking, leaves, polynomial)
    if word == "open":
        return None
    if word == "breaks":
        return _breaking_paper(ranking, leaves, polynomial)
    places = []
    tree = tree_of(whole, places)
    knots = [leaf for leaf in leaves if leaf[0] == "knot"]
    sums = [_sum_of_pending(ranking, leaf, polynomial, own) for leaf, own in zip(knots, places)]
    return ("holds", tree, tuple(sums))


def _breaking_paper(ranking, leaves, polynomial):
    """The paper by the first closed LEAF by which a POLYNOMIAL breaks."""
    found = [(chain, breaking_by(ranking, chain, polynomial)) for word, _, chain, _ in leaves if word == "closed"]
    chain, data = [pair for pair in found if pair[1] is not None][0]
    return ("breaks", chain, data)


def _sum_of_pending(ranking, leaf, polynomial, places):
    """Pairs (FRACTION, I): the rows of PENDING, by their places, whose sum is the NORMAL FORM by a knot."""
    _, _, chain, pending = leaf
    _, made = span_of(ranking, pending).rest_of(Putting(ranking, chain).form_of(polynomial))
    return tuple([(made[number], places[number]) for number in sorted(made)])


def check_follows(ranking, equations, polynomial, paper):
    """The word of a FOLLOWS PAPER of a POLYNOMIAL; one that doesn't come out is refused."""
    need_equations(ranking, equations)
    need_one(ranking, polynomial)
    if not isinstance(paper, tuple) or len(paper) != 3 or not isinstance(paper[0], str) or paper[0] not in WORDS:
        raise BadPaper()
    cover = Cover(ranking)
    if paper[0] == "breaks":
        _need_broken(cover, equations, polynomial, paper)
    else:
        _need_held(cover, equations, polynomial, paper)
    cover.need_told()
    return paper[0]


def _need_broken(cover, equations, polynomial, paper):
    """Refuses a CHAIN and DATA that don't show that a POLYNOMIAL breaks."""
    _, chain, data = paper
    if not cover.is_chain_there("closed", chain):
        raise BadPaper("chain")
    if not cover.all_go_out(chain, equations):
        raise BadPaper("equation")
    if not _is_broken(cover.ranked_by, chain, data, polynomial):
        raise BadPaper("data")


def _is_broken(ranking, chain, data, polynomial):
    """Whether there are DATA by which a POLYNOMIAL has a NUMBER other than nought."""
    try:
        return number_of(ranking, chain, polynomial, data=data)[0] != 0
    except BadData:
        return False


def _need_held(cover, equations, polynomial, paper):
    """Refuses a TREE and SUMS that don't show that a POLYNOMIAL holds."""
    _, tree, sums = paper
    cover.look(equations, tree)
    closed = [chain for word, chain, _ in cover.ended if word == "closed"]
    for number, chain in enumerate(closed):
        if not cover.all_go_out(chain, [polynomial]):
            raise BadPaper(("closed", number))
    if not isinstance(sums, tuple):
        raise BadPaper("sums")
    knots = [(chain, found) for word, chain, found in cover.ended if word == "knot"]
    for number in range(max(len(sums), len(knots))):
        if number >= len(sums) or number >= len(knots):
            raise BadPaper(("sum", number))
        if not _is_sum(cover, knots[number], sums[number], polynomial):
            raise BadPaper(("sum", number))


def _is_sum(cover, knot, thing, polynomial):
    """Whether anything tells a sum of a knot's rows that has the NORMAL FORM of a POLYNOMIAL."""
    chain, found = knot
    if not isinstance(thing, tuple):
        return False
    total = ()
    for pair in thing:
        if not isinstance(pair, tuple) or len(pair) != 2 or not is_fraction(pair[0]) or not is_row(found, pair[1]):
            return False
        total = plus(total, scaled(found[pair[1]], pair[0]))
    return cover.have_one_form(Putting(cover.ranked_by, chain), total, polynomial)
