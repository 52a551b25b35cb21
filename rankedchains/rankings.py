"""RANKINGS (SORT, NAMES, AXES), and which of two DERIVATIVES is above."""

from rankedchains.errors import BadRanking, OutOfPlace
from rankedchains.polynomials import derivatives_in, is_derivative, is_polynomial
from rankedchains.words import is_among, is_axis, is_name

SORTS = ("total", "names")
AXES_ALL = (("x",), ("x", "y"), ("y", "x"))

MOST_NAMES = 3
MOST_ORDER = 12


def need_ranking(ranking):
    """Refuses what is no RANKING, by the first place that can't be."""
    if not isinstance(ranking, tuple) or len(ranking) != 3:
        raise BadRanking()
    sort, names, axes = ranking
    if not isinstance(sort, str) or sort not in SORTS:
        raise BadRanking("sort")
    if not _are_names(names):
        raise BadRanking("names")
    if not _are_axes(axes):
        raise BadRanking("axes")


def _are_names(thing):
    """Whether anything is a tuple of one to three unlike NAMES."""
    if not isinstance(thing, tuple) or not 1 <= len(thing) <= MOST_NAMES:
        return False
    return all([is_name(name) for name in thing]) and len(set(thing)) == len(thing)


def _are_axes(thing):
    """Whether anything is a tuple of AXES such as a RANKING has."""
    # Each is looked at first, so that nothing but texts is compared.
    return isinstance(thing, tuple) and all([is_axis(axis) for axis in thing]) and thing in AXES_ALL


def is_ranking(thing):
    """Whether anything is a RANKING."""
    try:
        need_ranking(thing)
    except BadRanking:
        return False
    return True


def is_of(ranking, thing):
    """Whether anything is a DERIVATIVE OF the RANKING."""
    need_ranking(ranking)
    return derivative_fits(ranking, thing)


def holds_of(ranking, thing):
    """Whether anything is a POLYNOMIAL OF the RANKING."""
    need_ranking(ranking)
    return polynomial_fits(ranking, thing)


def derivative_fits(ranking, thing):
    """Whether anything is a DERIVATIVE OF what is a RANKING."""
    return is_derivative(thing) and _stands_there(ranking, thing)


def polynomial_fits(ranking, thing):
    """Whether anything is a POLYNOMIAL OF what is a RANKING."""
    if not is_polynomial(thing):
        return False
    return all([_stands_there(ranking, derivative) for derivative in derivatives_in(thing)])


def _stands_there(ranking, derivative):
    """Whether a DERIVATIVE is OF a RANKING."""
    _, names, axes = ranking
    name, _, by_y = derivative
    return name in names and (by_y == 0 or "y" in axes)


def need_derivative(ranking, thing):
    """Refuses what is no DERIVATIVE OF what is a RANKING."""
    if not derivative_fits(ranking, thing):
        raise OutOfPlace("no DERIVATIVE of the RANKING")


def rank_key(ranking, derivative):
    """What is greater just where the DERIVATIVE is above."""
    sort, names, axes = ranking
    name, by_x, by_y = derivative
    ahead = -names.index(name)
    first = by_x if axes[0] == "x" else by_y
    if sort == "total":
        return (by_x + by_y, first, ahead)
    return (ahead, by_x + by_y, first)


def rising(ranking, derivatives):
    """A list of DERIVATIVES OF the RANKING, rising."""
    return sorted(derivatives, key=lambda derivative: rank_key(ranking, derivative))


def rank_compared(ranking, one, other):
    """-1, 0 or 1, as the first is below the other one, like it, or above."""
    need_ranking(ranking)
    need_derivative(ranking, one)
    need_derivative(ranking, other)
    return compared(rank_key(ranking, one), rank_key(ranking, other))


def compared(one, other):
    """-1, 0 or 1, as the first key is less than the other one, like it, or greater."""
    if one == other:
        return 0
    return -1 if one < other else 1


def in_rank(ranking, some):
    """A rising list of the DERIVATIVES in a list or tuple, each once."""
    need_ranking(ranking)
    if not isinstance(some, (list, tuple)):
        raise OutOfPlace("no list of DERIVATIVES")
    found = {}
    for derivative in some:
        need_derivative(ranking, derivative)
        found[derivative] = True
    return rising(ranking, found)


def all_to(ranking, order):
    """A rising list of all DERIVATIVES OF the RANKING up to an ORDER."""
    need_ranking(ranking)
    if not is_among(order, 0, MOST_ORDER):
        raise OutOfPlace("no ORDER such as is due")
    _, names, axes = ranking
    found = []
    for name in names:
        for by_x in range(order + 1):
            most_by_y = order - by_x if "y" in axes else 0
            found.extend([(name, by_x, by_y) for by_y in range(most_by_y + 1)])
    return rising(ranking, found)
