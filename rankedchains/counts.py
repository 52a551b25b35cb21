"""COUNTS of FREE DERIVATIVES, ORDER by ORDER, and what they are LATER."""

from rankedchains.chains import need_chain
from rankedchains.cones import free_cones, greatest_corner, many_of
from rankedchains.errors import OutOfPlace
from rankedchains.words import is_among

MOST_MANY = 13


def counts(ranking, chain, *, many=6):
    """A list of how many FREE DERIVATIVES there are of each of the first ORDERS."""
    return counts_to(ranking, chain, many)


def counts_to(ranking, chain, many):
    """A list of as many COUNTS as told, from ORDER 0 on."""
    _need_total(ranking, chain)
    if not is_among(many, 0, MOST_MANY):
        raise OutOfPlace("not so many COUNTS are told")
    cones = free_cones(ranking, chain)
    return [_count(cones, order) for order in range(many)]


def _need_total(ranking, chain):
    """Refuses no RANKING, no CHAIN by it, and a RANKING by "names"."""
    need_chain(ranking, chain)
    if ranking[0] != "total":
        raise OutOfPlace("COUNTS are by a total RANKING")


def _count(cones, order):
    """How many DERIVATIVES of an ORDER are in CONES that have none in common."""
    return sum([many_of(cone, order) for cone in cones])


def counts_later(ranking, chain):
    """(FROM, A, B): from the ORDER FROM on, the least such, the COUNT of N is A * N + B."""
    _need_total(ranking, chain)
    cones = free_cones(ranking, chain)
    begin = greatest_corner(cones) + 1
    steep = _count(cones, begin + 1) - _count(cones, begin)
    flat = _count(cones, begin) - steep * begin
    while begin > 0 and _count(cones, begin - 1) == steep * (begin - 1) + flat:
        begin -= 1
    return (begin, steep, flat)
