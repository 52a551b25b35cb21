"""TABLES of CHAINS, and RELATIONS of POLYNOMIALS by them."""

from rankedchains.chains import first_by, need_chain
from rankedchains.errors import BadPolynomial, OutOfPlace
from rankedchains.normal import Putting
from rankedchains.numbers import NOUGHT, ONE
from rankedchains.polynomials import of_derivative
from rankedchains.rankings import all_to
from rankedchains.spans import Span, need_each
from rankedchains.words import is_among

MOST_TABLE_ORDER = 8
MOST_RELATED = 8


def table(ranking, chain, order):
    """The TABLE of a CHAIN to an ORDER: pairs (DERIVATIVE, NORMAL FORM), rising."""
    need_chain(ranking, chain)
    if not is_among(order, 0, MOST_TABLE_ORDER):
        raise OutOfPlace("no ORDER of a TABLE")
    putting = Putting(ranking, chain)
    principal = [one for one in all_to(ranking, order) if first_by(chain, one) is not None]
    return tuple([(one, putting.form_of(of_derivative(one))) for one in principal])


def relations(ranking, chain, polynomials):
    """The RELATIONS of one to eight POLYNOMIALS: rows of FRACTIONS that make all of them."""
    need_chain(ranking, chain)
    if not isinstance(polynomials, tuple) or not 1 <= len(polynomials) <= MOST_RELATED:
        raise BadPolynomial()
    need_each(ranking, polynomials)
    putting = Putting(ranking, chain)
    span = Span(ranking)
    rows = []
    for number, polynomial in enumerate(polynomials):
        # Sums stand for those alone that are independent of all ahead: at their places alone rows have more.
        made = span.take_in(number, putting.form_of(polynomial))
        if made is not None:
            rows.append(_row_of(number, made, len(polynomials)))
    return tuple(rows[::-1])


def _row_of(number, made, many):
    """The row by which the POLYNOMIAL of that number is less the sum that makes it."""
    row = [NOUGHT] * many
    for other in made:
        row[other] = (-made[other][0], made[other][1])
    row[number] = ONE
    return tuple(row)
