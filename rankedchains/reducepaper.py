"""REDUCE PAPERS: a POLYNOMIAL as a REDUCED one and a sum of derived EQUATIONS."""

from rankedchains.errors import BadPaper
from rankedchains.normal import MOST_ORDER_PUT, Putting, need_by
from rankedchains.numbers import ONE
from rankedchains.polynomials import by_powers, constant, of_derivative, plus, times
from rankedchains.rankings import polynomial_fits
from rankedchains.words import is_among


def reduce_paper(ranking, chain, polynomial):
    """A REDUCE PAPER of a POLYNOMIAL, with its NORMAL FORM."""
    need_by(ranking, chain, polynomial)
    return paper_by(Putting(ranking, chain), polynomial)


def paper_by(putting, polynomial):
    """A REDUCE PAPER of a POLYNOMIAL by the CHAIN that is put with."""
    reduced = putting.form_of(polynomial)
    papers = {}
    for derivative in putting.all_met(polynomial):
        number, by_x, by_y, put = putting.what_is_put(derivative)
        papers[derivative] = _rows_of(putting, put, papers)
        # The DERIVATIVE less what is put for it is one derived EQUATION, as it is.
        papers[derivative][(number, by_x, by_y)] = constant(ONE)
    rows = _rows_of(putting, polynomial, papers)
    return (reduced, tuple([(*place, rows[place]) for place in sorted(rows) if rows[place]]))


def _rows_of(putting, polynomial, papers):
    """A dict of the COFACTORS by which the NORMAL FORM is less, from those of what is MET."""
    rows = {}
    for derivative, cofactor in cofactors(putting, polynomial):
        paper = papers[derivative]
        for place in paper:
            rows[place] = plus(rows.get(place, ()), times(cofactor, paper[place]))
    return rows


def cofactors(putting, polynomial):
    """Pairs (DERIVATIVE, COFACTOR): by their sum, times DERIVATIVE less NORMAL FORM, the NORMAL FORM is less.

    It asks for no NORMAL FORM that the putting doesn't have yet.
    """
    forms = putting.forms
    pairs = []
    rest = polynomial
    for derivative in putting.in_order_of_putting(polynomial, forms):
        cofactor, rest = divided(rest, derivative, forms[derivative])
        pairs.append((derivative, cofactor))
    return pairs


def divided(polynomial, derivative, right):
    """What a POLYNOMIAL is by DERIVATIVE less RIGHT, and what is left of it."""
    parts = by_powers(polynomial, derivative)
    cofactor = ()
    carried = parts[-1]
    for power in reversed(range(len(parts) - 1)):
        cofactor = plus(cofactor, times(carried, of_derivative(derivative, power=power)))
        carried = plus(times(carried, right), parts[power])
    return cofactor, carried


def check_reduce(ranking, chain, polynomial, paper):
    """The NORMAL of a REDUCE PAPER of a POLYNOMIAL; one that doesn't come out is refused."""
    need_by(ranking, chain, polynomial)
    if not isinstance(paper, tuple) or len(paper) != 2:
        raise BadPaper()
    reduced, rows = paper
    if not polynomial_fits(ranking, reduced) or not isinstance(rows, tuple):
        raise BadPaper()
    ahead = None
    for number, row in enumerate(rows):
        if not _is_row(ranking, chain, row) or (ahead is not None and row[:3] <= ahead):
            raise BadPaper(("row", number))
        ahead = row[:3]
    putting = Putting(ranking, chain)
    if putting.principal_in(reduced):
        raise BadPaper("normal")
    if _sum_of_rows(putting, reduced, rows) != polynomial:
        raise BadPaper("sum")
    return reduced


def _is_row(ranking, chain, thing):
    """Whether anything is a row of a REDUCE PAPER, by itself."""
    if not isinstance(thing, tuple) or len(thing) != 4:
        return False
    number, by_x, by_y, cofactor = thing
    most_by_y = MOST_ORDER_PUT if "y" in ranking[2] else 0
    if not is_among(number, 0, len(chain) - 1) or not is_among(by_x, 0, MOST_ORDER_PUT):
        return False
    return is_among(by_y, 0, most_by_y) and polynomial_fits(ranking, cofactor) and cofactor != ()


def _sum_of_rows(putting, reduced, rows):
    """A REDUCED POLYNOMIAL and all COFACTORS times their derived EQUATIONS, together."""
    total = reduced
    for number, by_x, by_y, cofactor in rows:
        total = plus(total, times(cofactor, putting.equation_derived(number, by_x, by_y)))
    return total
