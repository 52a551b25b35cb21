"""EQUATIONS, their REDUCED ROWS, and what is IN their SPAN."""

from rankedchains.errors import BadPolynomial
from rankedchains.leaders import monomial_key, need_one
from rankedchains.numbers import NOUGHT, ONE, difference, product, quotient
from rankedchains.polynomials import polynomial_of
from rankedchains.rankings import need_ranking, polynomial_fits

MOST_EQUATIONS = 12


class Span:
    """REDUCED ROWS of POLYNOMIALS taken in one by one, and how each row is a sum of those.

    A row is told by its HEAD: a dict from MONOMIALS to FRACTIONS, and one from the numbers of
    those taken in to the FRACTIONS by which they are in it.
    """

    def __init__(self, ranking):
        self.ranked_by = ranking
        self.heads = {}
        self.ranks = {}

    def key_of(self, monomial):
        """What is greater just where the MONOMIAL is greater."""
        if monomial not in self.ranks:
            self.ranks[monomial] = monomial_key(self.ranked_by, monomial)
        return self.ranks[monomial]

    def falling(self, monomials):
        """A list of MONOMIALS, the greatest one first."""
        return sorted(monomials, key=lambda monomial: self.key_of(monomial), reverse=True)

    def rest_of(self, polynomial):
        """What is left of a POLYNOMIAL when rows are taken off, and the sum of those taken in that is taken off."""
        rest = {monomial: number for monomial, number in polynomial}
        off = {}
        # No HEAD is in another row, so that each number at a HEAD stays till its row is taken off.
        for monomial, number in polynomial:
            if monomial in self.heads:
                row, made = self.heads[monomial]
                take_off(rest, row, number)
                take_off(off, made, (-number[0], number[1]))
        return rest, off

    def has(self, polynomial):
        """Whether a POLYNOMIAL is IN the SPAN of those taken in."""
        rest, _ = self.rest_of(polynomial)
        return not rest

    def take_in(self, number, polynomial):
        """Takes in a POLYNOMIAL by its number; of one that is IN the SPAN it tells the sum that makes it, else None."""
        rest, off = self.rest_of(polynomial)
        if not rest:
            return off
        head = self.falling(rest)[0]
        worth = rest[head]
        made = {other: quotient((-off[other][0], off[other][1]), worth) for other in off}
        made[number] = quotient(ONE, worth)
        row = {monomial: quotient(rest[monomial], worth) for monomial in rest}
        for other in list(self.heads):
            other_row, other_made = self.heads[other]
            if head in other_row:
                by = other_row[head]
                take_off(other_row, row, by)
                take_off(other_made, made, by)
        self.heads[head] = (row, made)
        return None

    def rows_made(self):
        """A list of the REDUCED ROWS, HEADS falling, each with the dict that tells how it is made."""
        return [(polynomial_of(self.heads[head][0]), self.heads[head][1]) for head in self.falling(self.heads)]


def take_off(total, other, by):
    """Takes a dict of FRACTIONS, times a FRACTION, off another one, in which no nought is kept."""
    for key in other:
        left = difference(total.get(key, NOUGHT), product(other[key], by))
        if left[0] == 0:
            del total[key]
        else:
            total[key] = left


def span_of(ranking, polynomials):
    """The SPAN of POLYNOMIALS OF the RANKING, taken in by their numbers from 0 on."""
    span = Span(ranking)
    for number, polynomial in enumerate(polynomials):
        span.take_in(number, polynomial)
    return span


def rows_in(ranking, polynomials):
    """The REDUCED ROWS of POLYNOMIALS OF the RANKING."""
    return tuple([row for row, _ in span_of(ranking, polynomials).rows_made()])


def need_equations(ranking, equations):
    """Refuses what are no EQUATIONS, by the number of the first that is no POLYNOMIAL OF the RANKING."""
    need_ranking(ranking)
    if not isinstance(equations, tuple) or len(equations) > MOST_EQUATIONS:
        raise BadPolynomial()
    need_each(ranking, equations)


def need_each(ranking, polynomials):
    """Refuses a tuple for the first that is no POLYNOMIAL OF what is a RANKING, by its number."""
    for number, polynomial in enumerate(polynomials):
        if not polynomial_fits(ranking, polynomial):
            raise BadPolynomial(number)


def reduced_rows(ranking, equations):
    """The REDUCED ROWS of EQUATIONS: a tuple of POLYNOMIALS, HEADS falling."""
    need_equations(ranking, equations)
    return rows_in(ranking, equations)


def is_in_span(ranking, equations, polynomial):
    """Whether a POLYNOMIAL is a sum of EQUATIONS, each times a FRACTION."""
    need_equations(ranking, equations)
    need_one(ranking, polynomial)
    return span_of(ranking, equations).has(polynomial)
