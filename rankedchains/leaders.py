"""HEADS, LEADERS, COEFFICIENTS, INITIAL and SEPARANT of POLYNOMIALS by a RANKING."""

from rankedchains.errors import BadPolynomial, OutOfPlace
from rankedchains.numbers import quotient
from rankedchains.polynomials import by_powers, derivatives_in, is_monomial, of_derivative, plus, scaled, times
from rankedchains.rankings import compared, derivative_fits, need_ranking, polynomial_fits, rank_key


def need_one(ranking, thing):
    """Refuses what is no POLYNOMIAL OF what is a RANKING."""
    if not polynomial_fits(ranking, thing):
        raise BadPolynomial()


def monomials_compared(ranking, one, other):
    """-1, 0 or 1, as the first MONOMIAL is less than the other one, like it, or greater."""
    need_ranking(ranking)
    _need_monomial(ranking, one)
    _need_monomial(ranking, other)
    return compared(monomial_key(ranking, one), monomial_key(ranking, other))


def _need_monomial(ranking, thing):
    """Refuses what is no MONOMIAL OF what is a RANKING."""
    if not is_monomial(thing) or not all([derivative_fits(ranking, derivative) for derivative, _ in thing]):
        raise OutOfPlace("no MONOMIAL of the RANKING")


def monomial_key(ranking, monomial):
    """What is greater just where the MONOMIAL is greater."""
    # Of two rows that fall, the first unlike place is at the greatest DERIVATIVE of unlike POWERS.
    return sorted([(rank_key(ranking, derivative), power) for derivative, power in monomial], reverse=True)


def head_of(ranking, polynomial):
    """The HEAD with its FRACTION, or None of nought."""
    need_ranking(ranking)
    need_one(ranking, polynomial)
    return head_in(ranking, polynomial)


def head_in(ranking, polynomial):
    """The HEAD with its FRACTION, or None of nought, of what is OF the RANKING."""
    if not polynomial:
        return None
    return max(polynomial, key=lambda term: monomial_key(ranking, term[0]))


def leader_of(ranking, polynomial):
    """The LEADER, or None of a number."""
    need_ranking(ranking)
    need_one(ranking, polynomial)
    return leader_in(ranking, polynomial)


def leader_in(ranking, polynomial):
    """The LEADER, or None of a number, of what is OF the RANKING."""
    found = derivatives_in(polynomial)
    if not found:
        return None
    return max(found, key=lambda derivative: rank_key(ranking, derivative))


def _need_leader(ranking, polynomial):
    """The LEADER of a POLYNOMIAL OF the RANKING that isn't a number; all else is refused."""
    leader = leader_of(ranking, polynomial)
    if leader is None:
        raise OutOfPlace("a number has no LEADER")
    return leader


def coefficients_of(ranking, polynomial):
    """A list of the COEFFICIENTS, by powers of the LEADER from 0 on."""
    return by_powers(polynomial, _need_leader(ranking, polynomial))


def initial_of(ranking, polynomial):
    """The INITIAL: the last of the COEFFICIENTS."""
    return coefficients_of(ranking, polynomial)[-1]


def separant_of(ranking, polynomial):
    """The SEPARANT: by how much the POLYNOMIAL changes with its LEADER."""
    leader = _need_leader(ranking, polynomial)
    total = ()
    for power, coefficient in enumerate(by_powers(polynomial, leader)):
        if power > 0:
            lower = of_derivative(leader, power=power - 1)
            total = plus(total, times(scaled(coefficient, (power, 1)), lower))
    return total


def led_of(ranking, polynomial):
    """(LEADER, RIGHT) of what is LED, None of what isn't."""
    need_ranking(ranking)
    need_one(ranking, polynomial)
    return led_in(ranking, polynomial)


def led_in(ranking, polynomial):
    """(LEADER, RIGHT) of what is LED, None of what isn't, of what is OF the RANKING."""
    head = head_in(ranking, polynomial)
    if head is None:
        return None
    monomial, number = head
    if len(monomial) != 1 or monomial[0][1] != 1:
        return None
    rest = tuple([term for term in polynomial if term[0] != monomial])
    return (monomial[0][0], scaled(rest, quotient((-1, 1), number)))
