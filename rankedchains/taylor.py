"""TAYLOR of POLYNOMIALS along JETS: no POLYNOMIAL is derived, products are by the NUMBERS of their parts."""

from math import comb

from rankedchains.errors import BadPolynomial
from rankedchains.jets import length_in
from rankedchains.leaders import need_one
from rankedchains.numbers import NOUGHT, product, sum_of
from rankedchains.polynomials import number_in, order_of
from rankedchains.rankings import need_ranking
from rankedchains.spans import need_each


class Along:
    """NUMBERS of one POLYNOMIAL, derived to any place, by a dict of the NUMBERS of DERIVATIVES that may grow.

    A part is a DERIVATIVE, or a product of two parts ahead, told by their numbers; the NUMBER of each
    product at each place is reckoned once.
    """

    def __init__(self, polynomial, numbers):
        self.numbers = numbers
        self.parts = []
        self.worths = []
        self.places = {}
        self.constant_part = number_in(polynomial)
        self.terms = [(self.part_of(monomial), number) for monomial, number in polynomial if monomial]

    def part(self, thing):
        """The number of a part, made where it isn't there yet."""
        if thing not in self.places:
            self.places[thing] = len(self.parts)
            self.parts.append(thing)
            self.worths.append({})
        return self.places[thing]

    def part_of(self, monomial):
        """The number of the part that is a MONOMIAL other than ()."""
        whole = None
        for derivative, power in monomial:
            square = self.part(derivative)
            rest = power
            while rest > 0:
                if rest & 1:
                    whole = square if whole is None else self.part((whole, square))
                rest = rest >> 1
                if rest > 0:
                    square = self.part((square, square))
        return whole

    def at(self, by_x, by_y):
        """The NUMBER of the POLYNOMIAL derived so; that of each part is there at all places up to this one."""
        self.fill(by_x, by_y)
        total = self.constant_part if by_x + by_y == 0 else NOUGHT
        for part, number in self.terms:
            total = sum_of(total, product(number, self.worth(part, by_x, by_y)))
        return total

    def fill(self, by_x, by_y):
        """Reckons the NUMBERS of all products at all places up to this one."""
        for number, part in enumerate(self.parts):
            if len(part) == 2:
                known = self.worths[number]
                for less_x in range(by_x + 1):
                    for less_y in range(by_y + 1):
                        if (less_x, less_y) not in known:
                            known[(less_x, less_y)] = self.product_at(*part, less_x, less_y)

    def worth(self, number, by_x, by_y):
        """The NUMBER of a part derived so."""
        part = self.parts[number]
        if len(part) == 2:
            return self.worths[number][(by_x, by_y)]
        name, own_x, own_y = part
        return self.numbers[(name, own_x + by_x, own_y + by_y)]

    def product_at(self, one, other, by_x, by_y):
        """The NUMBER of a product of two parts derived so."""
        total = NOUGHT
        for less_x in range(by_x + 1):
            for less_y in range(by_y + 1):
                left = self.worth(one, less_x, less_y)
                right = self.worth(other, by_x - less_x, by_y - less_y)
                if left[0] != 0 and right[0] != 0:
                    many = comb(by_x, less_x) * comb(by_y, less_y)
                    total = sum_of(total, product((many, 1), product(left, right)))
        return total


def taylor_of(ranking, polynomial, jet):
    """TAYLOR of a POLYNOMIAL along a JET: a dict from (I, J), by I + J, then by I rising, to FRACTIONS."""
    need_ranking(ranking)
    need_one(ranking, polynomial)
    return _taylor_to(ranking, polynomial, jet, length_in(ranking, jet))


def _taylor_to(ranking, polynomial, jet, length):
    """TAYLOR of a POLYNOMIAL along a JET of that LENGTH."""
    along = Along(polynomial, {derivative: number for derivative, number in jet})
    told = {}
    for order in range(length - order_of(polynomial)):
        least = 0 if "y" in ranking[2] else order
        for by_x in range(least, order + 1):
            told[(by_x, order - by_x)] = along.at(by_x, order - by_x)
    return told


def solves(ranking, polynomial, jet):
    """Whether all TAYLOR of a POLYNOMIAL along a JET is nought."""
    return _first_place(taylor_of(ranking, polynomial, jet)) is None


def _first_place(told):
    """The first place of TAYLOR that isn't nought, or None."""
    for place in told:
        if told[place][0] != 0:
            return place
    return None


def first_fault(ranking, polynomials, jet):
    """(K, I, J): the first of POLYNOMIALS that a JET doesn't SOLVE, and its first place; or None."""
    need_ranking(ranking)
    if not isinstance(polynomials, tuple):
        raise BadPolynomial()
    need_each(ranking, polynomials)
    length = length_in(ranking, jet)
    for number, polynomial in enumerate(polynomials):
        place = _first_place(_taylor_to(ranking, polynomial, jet, length))
        if place is not None:
            return (number, *place)
    return None
