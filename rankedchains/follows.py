"""What follows from EQUATIONS: "holds", "breaks" or "open" by all LEAVES, and BREAKING DATA."""

from rankedchains.cases import is_great, leaves_of
from rankedchains.errors import TooGreat
from rankedchains.leaders import need_one
from rankedchains.normal import Putting
from rankedchains.polynomials import constant, derivatives_in, put_into
from rankedchains.spans import need_equations, span_of


def word_of(ranking, equations, polynomial):
    """What becomes of a POLYNOMIAL by EQUATIONS: "holds", "breaks" or "open"."""
    need_equations(ranking, equations)
    need_one(ranking, polynomial)
    return word_by(ranking, leaves_of(ranking, equations), polynomial)


def word_by(ranking, leaves, polynomial):
    """What becomes of a POLYNOMIAL by all LEAVES."""
    return _first_of([_word_by_one(ranking, leaf, polynomial) for leaf in leaves])[0]


def _first_of(words):
    """The word of all words together, with the number of the first that is so, None of "holds"."""
    for word in ("breaks", "open"):
        if word in words:
            return (word, words.index(word))
    return ("holds", None)


def _word_by_one(ranking, leaf, polynomial):
    """What becomes of a POLYNOMIAL by one LEAF."""
    word, _, chain, pending = leaf
    if word == "contradiction":
        return "holds"
    form = Putting(ranking, chain).form_of(polynomial)
    if word == "closed":
        return "holds" if form == () else "breaks"
    return "holds" if span_of(ranking, pending).has(form) else "open"


def implied(ranking, equations, others):
    """(WORD, number): whether EQUATIONS IMPLY others, and the first of these that breaks, or is open."""
    need_equations(ranking, equations)
    need_equations(ranking, others)
    return _implied_by(ranking, equations, others)


def _implied_by(ranking, equations, others):
    """(WORD, number), as implied tells, of what are EQUATIONS."""
    leaves = leaves_of(ranking, equations)
    return _first_of([word_by(ranking, leaves, polynomial) for polynomial in others])


def are_same(ranking, equations, others):
    """Whether EQUATIONS and others each IMPLY the other ones by "holds"."""
    need_equations(ranking, equations)
    need_equations(ranking, others)
    both = [_implied_by(ranking, equations, others), _implied_by(ranking, others, equations)]
    return both == [("holds", None), ("holds", None)]


def breaking(ranking, chain, polynomial):
    """BREAKING DATA of a POLYNOMIAL and a CLOSED CHAIN, or None where it GOES OUT."""
    great = is_great(ranking, chain)
    need_one(ranking, polynomial)
    if great:
        raise TooGreat("the CHAIN has CONDITIONS that are too great")
    return breaking_by(ranking, chain, polynomial)


def breaking_by(ranking, chain, polynomial):
    """BREAKING DATA, or None, of what are a CLOSED CHAIN and a POLYNOMIAL."""
    form = Putting(ranking, chain).form_of(polynomial)
    return None if form == () else data_against(form)


def data_against(form):
    """DATA by which a NORMAL FORM other than nought has a NUMBER other than nought."""
    rest = form
    data = []
    for derivative in derivatives_in(form):
        number = 0
        put = put_into(rest, derivative, ())
        # A POLYNOMIAL is nought by as many numbers at most as its greatest power of the DERIVATIVE tells.
        while put == ():
            number += 1
            put = put_into(rest, derivative, constant((number, 1)))
        rest = put
        if number > 0:
            data.append((derivative, (number, 1)))
    return tuple(data)
