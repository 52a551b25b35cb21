"""CHAINS: tuples of pairs (LEADER, RIGHT), and what is DERIVED of their LEADERS."""

from rankedchains.errors import BadChain, OutOfPlace
from rankedchains.polynomials import derivatives_in, is_derivative, less, of_derivative
from rankedchains.rankings import derivative_fits, need_derivative, need_ranking, polynomial_fits, rank_key


def derived_by(one, other):
    """(K, L) by which the second DERIVATIVE is DERIVED of the first one, or None."""
    _need_derivatives(one, other)
    return way_to(one, other)


def least_common(one, other):
    """The LEAST COMMON of two DERIVATIVES, None of unlike NAMES."""
    _need_derivatives(one, other)
    if one[0] != other[0]:
        return None
    return (one[0], max(one[1], other[1]), max(one[2], other[2]))


def _need_derivatives(one, other):
    """Refuses what are no two DERIVATIVES."""
    if not is_derivative(one) or not is_derivative(other):
        raise OutOfPlace("no DERIVATIVE")


def way_to(one, other):
    """(K, L) by which the second of two DERIVATIVES is DERIVED of the first one, or None."""
    if one[0] != other[0] or other[1] < one[1] or other[2] < one[2]:
        return None
    return (other[1] - one[1], other[2] - one[2])


def need_chain(ranking, chain):
    """Refuses what is no CHAIN by a RANKING, by the first word and the first pair that isn't so."""
    need_ranking(ranking)
    if not isinstance(chain, tuple):
        raise BadChain()
    _refuse_first("form", [is_pair(ranking, pair) for pair in chain])
    leaders = [leader for leader, _ in chain]
    keys = [rank_key(ranking, leader) for leader in leaders]
    places = list(range(len(chain)))
    _refuse_first("rising", [at == 0 or keys[at - 1] < keys[at] for at in places])
    # LEADERS that rise are DERIVED of none but of those ahead.
    _refuse_first("derived", [not _is_derived_of(leaders[at], leaders[:at]) for at in places])
    _refuse_first("above", [_is_below(ranking, chain[at][1], keys[at]) for at in places])
    _refuse_first("principal", [_is_free_of(chain, right) for _, right in chain])


def _refuse_first(word, fits):
    """Refuses a CHAIN for a word, by the first pair that isn't so."""
    for number, fit in enumerate(fits):
        if not fit:
            raise BadChain((word, number))


def is_pair(ranking, thing):
    """Whether anything is a pair of a DERIVATIVE and a POLYNOMIAL OF what is a RANKING."""
    if not isinstance(thing, tuple) or len(thing) != 2:
        return False
    return derivative_fits(ranking, thing[0]) and polynomial_fits(ranking, thing[1])


def _is_derived_of(leader, others):
    """Whether a LEADER is DERIVED of one of the others."""
    return any([way_to(other, leader) is not None for other in others])


def _is_below(ranking, polynomial, key):
    """Whether all DERIVATIVES of a POLYNOMIAL are below that of a key."""
    return all([rank_key(ranking, derivative) < key for derivative in derivatives_in(polynomial)])


def _is_free_of(chain, polynomial):
    """Whether a POLYNOMIAL is without PRINCIPAL DERIVATIVES."""
    return all([first_by(chain, derivative) is None for derivative in derivatives_in(polynomial)])


def is_chain(ranking, thing):
    """Whether anything is a CHAIN by the RANKING."""
    try:
        need_chain(ranking, thing)
    except BadChain:
        return False
    return True


def equation_of(ranking, pair):
    """The EQUATION of a pair: LEADER less RIGHT."""
    need_ranking(ranking)
    _need_pair(ranking, pair)
    return less(of_derivative(pair[0]), pair[1])


def equations_in(chain):
    """A list of the EQUATIONS of all pairs of a CHAIN."""
    return [less(of_derivative(leader), right) for leader, right in chain]


def _need_pair(ranking, thing):
    """Refuses what is no pair of a DERIVATIVE and a POLYNOMIAL OF what is a RANKING."""
    if not is_pair(ranking, thing):
        raise OutOfPlace("no pair of a DERIVATIVE and a POLYNOMIAL of the RANKING")


def chain_in_order(ranking, pairs):
    """A tuple of the pairs in a list or tuple, rising by LEADERS."""
    need_ranking(ranking)
    if not isinstance(pairs, (list, tuple)):
        raise OutOfPlace("no list of pairs")
    for pair in pairs:
        _need_pair(ranking, pair)
    return tuple(sorted(pairs, key=lambda pair: rank_key(ranking, pair[0])))


def principal_by(ranking, chain, derivative):
    """The number of the first pair of whose LEADER the DERIVATIVE is DERIVED, or None."""
    need_chain(ranking, chain)
    need_derivative(ranking, derivative)
    return first_by(chain, derivative)


def first_by(chain, derivative):
    """The number of the first pair of whose LEADER the DERIVATIVE is DERIVED, or None, of a CHAIN."""
    for number, (leader, _) in enumerate(chain):
        if way_to(leader, derivative) is not None:
            return number
    return None
