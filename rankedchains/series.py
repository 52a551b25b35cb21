"""DATA by a CHAIN, and the NUMBERS of all DERIVATIVES, POLYNOMIALS and JETS by them."""

from rankedchains.chains import first_by, need_chain, way_to
from rankedchains.errors import BadData, OutOfPlace
from rankedchains.freedoms import need_length
from rankedchains.jets import is_numbered, places_to
from rankedchains.leaders import need_one
from rankedchains.normal import Putting
from rankedchains.numbers import NOUGHT
from rankedchains.polynomials import derivatives_in, monomial_degree, of_derivative, value_of
from rankedchains.rankings import MOST_ORDER, need_derivative, rising
from rankedchains.taylor import Along

LENGTH = 4
MOST_LENGTH = 8


class Numbering:
    """NUMBERS by DATA: of all DERIVATIVES that were asked for, and of those that their NUMBERS are reckoned by.

    No RIGHT is derived: its NUMBERS are told as TAYLOR is, so that none is too great.
    """

    def __init__(self, ranking, chain, data):
        self.ranked_by = ranking
        self.pairs = chain
        self.given = {derivative: number for derivative, number in data}
        self.numbers = {}
        self.alongs = [Along(right, self.numbers) for _, right in chain]
        self.within = [derivatives_in(right) for _, right in chain]
        self.multiplied = [derivatives_in(products_in(right)) for _, right in chain]

    def reckon(self, derivatives):
        """A dict that has the NUMBERS of DERIVATIVES, and of others."""
        # All that a NUMBER is reckoned by is lower, so that it's there by then.
        for derivative in rising(self.ranked_by, self.wanted(derivatives)):
            number = first_by(self.pairs, derivative)
            if number is None:
                self.numbers[derivative] = self.given.get(derivative, NOUGHT)
            else:
                by_x, by_y = way_to(self.pairs[number][0], derivative)
                self.numbers[derivative] = self.alongs[number].at(by_x, by_y)
        return self.numbers

    def wanted(self, derivatives):
        """A dict of DERIVATIVES and of all by which their NUMBERS are reckoned, without those that are there."""
        found = {}
        waiting = list(derivatives)
        while waiting:
            derivative = waiting.pop()
            if derivative not in found and derivative not in self.numbers:
                found[derivative] = True
                waiting.extend(self.reckoned_by(derivative))
        return found

    def reckoned_by(self, derivative):
        """A list of the DERIVATIVES by whose NUMBERS that of a DERIVATIVE is reckoned at once."""
        number = first_by(self.pairs, derivative)
        if number is None:
            return []
        by_x, by_y = way_to(self.pairs[number][0], derivative)
        highest = [(name, own_x + by_x, own_y + by_y) for name, own_x, own_y in self.within[number]]
        return highest + [
            (name, own_x + less_x, own_y + less_y)
            for name, own_x, own_y in self.multiplied[number]
            for less_x in range(by_x + 1)
            for less_y in range(by_y + 1)
        ]


def products_in(polynomial):
    """The POLYNOMIAL without its MONOMIALS of a DEGREE below 2."""
    return tuple([term for term in polynomial if monomial_degree(term[0]) > 1])


def need_data(ranking, chain, data):
    """Refuses what are no DATA, by the number of the first pair that can't be."""
    need_chain(ranking, chain)
    data_by(ranking, chain, data)


def data_by(ranking, chain, data):
    """The NUMBERING by DATA by what is a CHAIN; what are no DATA are refused."""
    if not isinstance(data, tuple):
        raise BadData()
    ahead = None
    for number, pair in enumerate(data):
        if not is_numbered(ranking, pair) or first_by(chain, pair[0]) is not None:
            raise BadData(number)
        if ahead is not None and pair[0] <= ahead:
            raise BadData(number)
        ahead = pair[0]
    return Numbering(ranking, chain, data)


def need_low(ranking, thing):
    """Refuses what is no DERIVATIVE OF what is a RANKING, and one of too great an ORDER."""
    need_derivative(ranking, thing)
    if thing[1] + thing[2] > MOST_ORDER:
        raise OutOfPlace("a DERIVATIVE of too great an ORDER")


def number_at(ranking, chain, derivative, *, data=()):
    """The NUMBER of a DERIVATIVE by DATA."""
    need_chain(ranking, chain)
    need_low(ranking, derivative)
    return data_by(ranking, chain, data).reckon([derivative])[derivative]


def number_of(ranking, chain, polynomial, *, data=()):
    """The NUMBER of a POLYNOMIAL by DATA."""
    need_chain(ranking, chain)
    need_one(ranking, polynomial)
    return value_of(polynomial, data_by(ranking, chain, data).reckon(derivatives_in(polynomial)))


def jet_of(ranking, chain, *, data=(), length=LENGTH):
    """The JET OF DATA of a LENGTH."""
    need_chain(ranking, chain)
    numbering = data_by(ranking, chain, data)
    need_length(length)
    due = places_to(ranking, length)
    numbers = numbering.reckon(due)
    return tuple([(derivative, numbers[derivative]) for derivative in due])


def hangs_on(ranking, chain, derivative):
    """The FREE DERIVATIVES in the NORMAL FORM of a DERIVATIVE, rising."""
    need_chain(ranking, chain)
    need_low(ranking, derivative)
    form = Putting(ranking, chain).form_of(of_derivative(derivative))
    return tuple(rising(ranking, derivatives_in(form)))
