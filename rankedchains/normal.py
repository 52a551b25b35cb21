"""What a CHAIN puts, its STEPS, and NORMAL FORMS by it."""

from rankedchains.chains import first_by, need_chain, way_to
from rankedchains.errors import TooGreat
from rankedchains.leaders import need_one
from rankedchains.polynomials import (
    add_term,
    degree_of,
    derivatives_in,
    derived,
    less,
    monomials_together,
    of_derivative,
    polynomial_of,
    put_into,
)
from rankedchains.rankings import need_derivative, rising

MOST_ORDER_PUT = 24
MOST_TERMS = 120
MOST_DEGREE = 16

# From so many products on a short look tells first whether it's worth while to reckon all of them.
MANY_PRODUCTS = 20000
# It stands in no POLYNOMIAL that is handed in, as it has no NAME.
NAMELESS = ("", 0, 0)


class Putting:
    """What one CHAIN puts, and NORMAL FORMS by it: each derived RIGHT, each form of what is MET reckoned once."""

    def __init__(self, ranking, chain):
        self.ranked_by = ranking
        self.pairs = chain
        self.rights = {}
        self.forms = {}

    def right_derived(self, number, by_x, by_y):
        """The RIGHT of a pair derived as often as told by x and by y."""
        if (number, by_x, by_y) in self.rights:
            return self.rights[(number, by_x, by_y)]
        right = self.pairs[number][1]
        for step in range(1, by_x + by_y + 1):
            key = (number, min(step, by_x), max(step - by_x, 0))
            if key not in self.rights:
                self.rights[key] = derived(right, "x" if step <= by_x else "y")
            right = self.rights[key]
        return right

    def equation_derived(self, number, by_x, by_y):
        """The EQUATION of a pair derived as often as told by x and by y."""
        name, times_x, times_y = self.pairs[number][0]
        left = of_derivative((name, times_x + by_x, times_y + by_y))
        return less(left, self.right_derived(number, by_x, by_y))

    def what_is_put(self, derivative):
        """(NUMBER, I, J, POLYNOMIAL) that is put for a DERIVATIVE, None of one that is FREE."""
        number = first_by(self.pairs, derivative)
        if number is None:
            return None
        if derivative[1] + derivative[2] > MOST_ORDER_PUT:
            raise TooGreat("nothing is put for a DERIVATIVE of such an ORDER")
        by_x, by_y = way_to(self.pairs[number][0], derivative)
        return (number, by_x, by_y, self.right_derived(number, by_x, by_y))

    def principal_in(self, polynomial):
        """A list of the PRINCIPAL DERIVATIVES of a POLYNOMIAL, rising."""
        found = [one for one in derivatives_in(polynomial) if first_by(self.pairs, one) is not None]
        return rising(self.ranked_by, found)

    def all_met(self, polynomial):
        """A list of the DERIVATIVES that are MET, rising."""
        return self.met_beyond(polynomial, {})

    def met_beyond(self, polynomial, known):
        """A list of the DERIVATIVES that are MET, rising, but those in a dict, whose own ones are in it, too."""
        found = {}
        waiting = self.principal_in(polynomial)
        while waiting:
            derivative = waiting.pop()
            if derivative not in found and derivative not in known:
                found[derivative] = True
                waiting.extend(self.principal_in(self.what_is_put(derivative)[3]))
        return rising(self.ranked_by, found)

    def form_of(self, polynomial):
        """The NORMAL FORM of a POLYNOMIAL."""
        forms = {derivative: self.forms[derivative] for derivative in self.forms}
        for derivative in self.met_beyond(polynomial, forms):
            # All that is MET by it is lower, so that its NORMAL FORM is there by now.
            forms[derivative] = self.with_forms(self.what_is_put(derivative)[3], forms)
        result = self.with_forms(polynomial, forms)
        # They are kept now alone, so that what is TooGreat leaves all as it was.
        self.forms = forms
        return result

    def with_forms(self, polynomial, forms):
        """The POLYNOMIAL with NORMAL FORMS in the place of its PRINCIPAL DERIVATIVES."""
        order = self.in_order_of_putting(polynomial, forms)
        if many_products(polynomial, forms) > MANY_PRODUCTS:
            shadows = {derivative: shadow_of(forms[derivative], forms) for derivative in order}
            # A shadow has as many terms at most as that of which it is.
            if len(all_put(shadow_of(polynomial, forms), order, shadows)) > MOST_TERMS:
                raise TooGreat("a NORMAL FORM has too many terms")
        result = all_put(polynomial, order, forms)
        if len(result) > MOST_TERMS or degree_of(result) > MOST_DEGREE:
            raise TooGreat("a NORMAL FORM has too many terms or too great a DEGREE")
        return result

    def in_order_of_putting(self, polynomial, forms):
        """The PRINCIPAL DERIVATIVES of a POLYNOMIAL, as their NORMAL FORMS are put in."""
        # The shortest are put in first, noughts ahead of all, so that less is multiplied.
        return sorted(self.principal_in(polynomial), key=lambda derivative: len(forms[derivative]))


def all_put(polynomial, order, forms):
    """The POLYNOMIAL with forms in the place of DERIVATIVES, one behind the other."""
    result = polynomial
    for derivative in order:
        result = put_into(result, derivative, forms[derivative])
    return result


def many_products(polynomial, forms):
    """How many terms there are at most when forms are put into a POLYNOMIAL, like ones not brought together."""
    total = 0
    for monomial, _ in polynomial:
        many = 1
        for derivative, power in monomial:
            if derivative in forms:
                for _ in range(min(power, MOST_DEGREE)):
                    many = many * len(forms[derivative])
        total = total + many
    return total


def shadow_of(polynomial, forms):
    """The POLYNOMIAL with powers of one DERIVATIVE alone for all DERIVATIVES for which there are no forms.

    Sums, products and what is put have shadows that are sums, products and put of shadows.
    """
    total = {}
    for monomial, number in polynomial:
        weight = 0
        kept = ()
        for derivative, power in monomial:
            if derivative in forms:
                kept = (*kept, (derivative, power))
            else:
                weight = weight + power * _weight_of(derivative)
        lone = ((NAMELESS, weight),) if weight > 0 else ()
        add_term(total, monomials_together(lone, kept), number)
    return polynomial_of(total)


def _weight_of(derivative):
    """A power for a DERIVATIVE, so that unlike ones have unlike powers mostly."""
    name, by_x, by_y = derivative
    return 1 + (sum([ord(letter) for letter in name]) * 7 + by_x * 5 + by_y * 17) % 61


def put_for(ranking, chain, derivative):
    """(NUMBER, I, J, POLYNOMIAL) that is put for a DERIVATIVE, None of one that is FREE."""
    need_chain(ranking, chain)
    need_derivative(ranking, derivative)
    return Putting(ranking, chain).what_is_put(derivative)


def step_of(ranking, chain, polynomial):
    """(DERIVATIVE, POLYNOMIAL): what a STEP puts for and what comes of it; None of what is REDUCED."""
    need_by(ranking, chain, polynomial)
    putting = Putting(ranking, chain)
    principal = putting.principal_in(polynomial)
    if not principal:
        return None
    greatest = principal[-1]
    return (greatest, put_into(polynomial, greatest, putting.what_is_put(greatest)[3]))


def need_by(ranking, chain, polynomial):
    """Refuses no RANKING, no CHAIN by it, no POLYNOMIAL OF it."""
    need_chain(ranking, chain)
    need_one(ranking, polynomial)


def normal(ranking, chain, polynomial):
    """The NORMAL FORM of a POLYNOMIAL."""
    need_by(ranking, chain, polynomial)
    return Putting(ranking, chain).form_of(polynomial)


def is_reduced(ranking, chain, polynomial):
    """Whether a POLYNOMIAL is without PRINCIPAL DERIVATIVES."""
    need_by(ranking, chain, polynomial)
    return Putting(ranking, chain).principal_in(polynomial) == []


def goes_out(ranking, chain, polynomial):
    """Whether the NORMAL FORM of a POLYNOMIAL is nought."""
    return normal(ranking, chain, polynomial) == ()


def are_like(ranking, chain, polynomial, other):
    """Whether the difference of two POLYNOMIALS GOES OUT."""
    need_by(ranking, chain, polynomial)
    need_one(ranking, other)
    return Putting(ranking, chain).form_of(less(polynomial, other)) == ()


def met(ranking, chain, polynomial):
    """A list of the DERIVATIVES that are MET by a POLYNOMIAL, rising."""
    need_by(ranking, chain, polynomial)
    return Putting(ranking, chain).all_met(polynomial)
