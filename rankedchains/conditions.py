"""CONDITIONS of CHAINS: where two EQUATIONS tell of one DERIVATIVE."""

from rankedchains.chains import need_chain, way_to
from rankedchains.errors import BadChain
from rankedchains.normal import Putting
from rankedchains.polynomials import less


def conditions(ranking, chain):
    """A list of (I, J, POLYNOMIAL) of the CONDITIONS, rising, those that are nought, too."""
    need_chain(ranking, chain)
    return conditions_by(Putting(ranking, chain))


def conditions_by(putting):
    """A list of (I, J, POLYNOMIAL) of the CONDITIONS of the CHAIN that is put with."""
    return [(low, high, putting.form_of(told_unlike(putting, low, high))) for low, high in meetings(putting.pairs)]


def meetings(chain):
    """A list of the numbers (I, J), I below J, of each two pairs of one NAME."""
    places = list(range(len(chain)))
    return [(low, high) for low in places for high in places[low + 1 :] if chain[low][0][0] == chain[high][0][0]]


def ways_to_meet(chain, low, high):
    """How often each of two LEADERS is derived to their LEAST COMMON: (K, L) of the one, of the other."""
    one = chain[low][0]
    other = chain[high][0]
    common = (one[0], max(one[1], other[1]), max(one[2], other[2]))
    return (way_to(one, common), way_to(other, common))


def told_unlike(putting, low, high):
    """What the one pair tells of the LEAST COMMON, less what the other one tells, as it stands."""
    one_way, other_way = ways_to_meet(putting.pairs, low, high)
    return less(putting.right_derived(low, *one_way), putting.right_derived(high, *other_way))


def is_closed(ranking, chain):
    """Whether all CONDITIONS of a CHAIN are nought."""
    # All of them are reckoned, whatever the first ones come to: TooGreat is where any of them is.
    return all([polynomial == () for _, _, polynomial in conditions(ranking, chain)])


def need_closed(ranking, chain):
    """Refuses what is no CHAIN, or none that is CLOSED, by the first CONDITION that isn't nought."""
    for low, high, polynomial in conditions(ranking, chain):
        if polynomial != ():
            raise BadChain(("open", low, high))
