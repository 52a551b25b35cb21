"""POLYNOMIALS: tuples of pairs (MONOMIAL, FRACTION), rising, with exact sums."""

from rankedchains.errors import BadPolynomial
from rankedchains.numbers import NOUGHT, ONE, is_fraction, product, sum_of
from rankedchains.words import is_name, is_whole


def is_derivative(thing):
    """Whether anything is a DERIVATIVE (NAME, I, J)."""
    if not isinstance(thing, tuple) or len(thing) != 3:
        return False
    name, by_x, by_y = thing
    return is_name(name) and is_whole(by_x) and is_whole(by_y) and by_x >= 0 and by_y >= 0


def is_monomial(thing):
    """Whether anything is a MONOMIAL: pairs (DERIVATIVE, POWER), rising."""
    if not isinstance(thing, tuple):
        return False
    ahead = None
    for pair in thing:
        if not _is_powered(pair) or (ahead is not None and pair[0] <= ahead):
            return False
        ahead = pair[0]
    return True


def _is_powered(thing):
    """Whether anything is a pair (DERIVATIVE, POWER)."""
    if not isinstance(thing, tuple) or len(thing) != 2:
        return False
    derivative, power = thing
    return is_derivative(derivative) and is_whole(power) and power > 0


def _is_term(thing):
    """Whether anything is a pair (MONOMIAL, FRACTION) with a FRACTION that isn't nought."""
    if not isinstance(thing, tuple) or len(thing) != 2:
        return False
    monomial, number = thing
    return is_monomial(monomial) and is_fraction(number) and number[0] != 0


def need_polynomial(thing):
    """Refuses what is no POLYNOMIAL, by the number of the first thing that can't be."""
    if not isinstance(thing, tuple):
        raise BadPolynomial()
    ahead = None
    for number, pair in enumerate(thing):
        if not _is_term(pair) or (ahead is not None and pair[0] <= ahead):
            raise BadPolynomial(number)
        ahead = pair[0]


def is_polynomial(thing):
    """Whether anything is a POLYNOMIAL."""
    try:
        need_polynomial(thing)
    except BadPolynomial:
        return False
    return True


def constant(number):
    """The POLYNOMIAL that is a FRACTION alone."""
    if number[0] == 0:
        return ()
    return (((), number),)


def of_derivative(derivative, *, power=1):
    """The POLYNOMIAL that is a power of one DERIVATIVE alone."""
    if power == 0:
        return constant(ONE)
    return ((((derivative, power),), ONE),)


def plus(one, other):
    """Both together."""
    total = {monomial: number for monomial, number in one}
    add_to(total, other)
    return polynomial_of(total)


def less(one, other):
    """The first less the second."""
    return plus(one, scaled(other, (-1, 1)))


def times(one, other):
    """One times the other."""
    total = {}
    for monomial, number in one:
        for by_monomial, by_number in other:
            add_term(total, monomials_together(monomial, by_monomial), product(number, by_number))
    return polynomial_of(total)


def scaled(one, number):
    """The POLYNOMIAL times a FRACTION."""
    if number[0] == 0:
        return ()
    return tuple([(monomial, product(worth, number)) for monomial, worth in one])


def raised(one, power):
    """The POLYNOMIAL multiplied with itself, power times."""
    result = constant(ONE)
    square = one
    rest = power
    while rest > 0:
        if rest & 1:
            result = times(result, square)
        rest = rest >> 1
        if rest > 0:
            square = times(square, square)
    return result


def derived(one, axis, *, many=1):
    """The POLYNOMIAL DERIVED by an AXIS, many times."""
    result = one
    for _ in range(many):
        result = _derived_once(result, axis)
    return result


def _derived_once(one, axis):
    """The POLYNOMIAL DERIVED by an AXIS."""
    total = {}
    for monomial, number in one:
        for at, (derivative, power) in enumerate(monomial):
            lower = ((derivative, power - 1),) if power > 1 else ()
            rest = monomial[:at] + lower + monomial[at + 1 :]
            higher = ((_higher(derivative, axis), 1),)
            add_term(total, monomials_together(rest, higher), product(number, (power, 1)))
    return polynomial_of(total)


def _higher(derivative, axis):
    """The DERIVATIVE derived once more by an AXIS."""
    name, by_x, by_y = derivative
    if axis == "x":
        return (name, by_x + 1, by_y)
    return (name, by_x, by_y + 1)


def put_into(one, derivative, other):
    """The first POLYNOMIAL with the other one in the place of a DERIVATIVE."""
    parts = by_powers(one, derivative)
    result = parts[-1]
    for part in parts[-2::-1]:
        result = plus(times(result, other), part)
    return result


def by_powers(one, derivative):
    """The POLYNOMIALS, without a DERIVATIVE, by which its powers 0, 1, .. are multiplied."""
    totals = [{}]
    for monomial, number in one:
        power = 0
        rest = monomial
        for at, (found, height) in enumerate(monomial):
            if found == derivative:
                power = height
                rest = monomial[:at] + monomial[at + 1 :]
        while len(totals) <= power:
            totals.append({})
        totals[power][rest] = number
    return [polynomial_of(total) for total in totals]


def value_of(one, numbers):
    """The VALUE by a dict from DERIVATIVES to FRACTIONS: 0 for all that aren't in it."""
    value = NOUGHT
    for monomial, number in one:
        part = number
        for derivative, power in monomial:
            part = product(part, _power_of(numbers.get(derivative, NOUGHT), power))
        value = sum_of(value, part)
    return value


def _power_of(number, power):
    """A FRACTION multiplied with itself, power times."""
    result = ONE
    square = number
    rest = power
    while rest > 0:
        if rest & 1:
            result = product(result, square)
        rest = rest >> 1
        if rest > 0:
            square = product(square, square)
    return result


def is_number(one):
    """Whether a POLYNOMIAL has no MONOMIAL but ()."""
    return all([monomial == () for monomial, _ in one])


def number_in(one):
    """The FRACTION of the MONOMIAL (), or NOUGHT."""
    if one and one[0][0] == ():
        return one[0][1]
    return NOUGHT


def degree_of(one):
    """The greatest DEGREE of a MONOMIAL."""
    return max([monomial_degree(monomial) for monomial, _ in one], default=0)


def monomial_degree(monomial):
    """All POWERS together."""
    return sum([power for _, power in monomial])


def order_of(one):
    """The greatest ORDER of a DERIVATIVE."""
    return max([by_x + by_y for _, by_x, by_y in derivatives_in(one)], default=0)


def derivatives_in(one):
    """All DERIVATIVES in a POLYNOMIAL, rising as tuples."""
    found = {}
    for monomial, _ in one:
        for derivative, _ in monomial:
            found[derivative] = True
    return tuple(sorted(found))


def names_in(one):
    """All NAMES in a POLYNOMIAL, rising."""
    return tuple(sorted({derivative[0] for derivative in derivatives_in(one)}))


def add_to(total, one):
    """Adds a POLYNOMIAL to a dict from MONOMIALS to FRACTIONS."""
    for monomial, number in one:
        add_term(total, monomial, number)


def add_term(total, monomial, number):
    """Adds one term to a dict from MONOMIALS to FRACTIONS."""
    if monomial in total:
        total[monomial] = sum_of(total[monomial], number)
    else:
        total[monomial] = number


def polynomial_of(total):
    """The POLYNOMIAL of a dict from MONOMIALS to FRACTIONS, noughts left out."""
    return tuple(sorted([(monomial, number) for monomial, number in total.items() if number[0] != 0]))


def monomials_together(one, other):
    """The product of two MONOMIALS."""
    if not one:
        return other
    if not other:
        return one
    powers = {derivative: power for derivative, power in one}
    for derivative, power in other:
        powers[derivative] = powers.get(derivative, 0) + power
    return tuple(sorted(powers.items()))
