"""JETS: the first NUMBERS of a SERIES for each unknown; their CUTS, SUMS and PRODUCTS."""

from rankedchains.chains import first_by, need_chain
from rankedchains.errors import BadJet, OutOfPlace
from rankedchains.freedoms import MOST_LENGTH, need_length
from rankedchains.numbers import is_fraction, product, sum_of
from rankedchains.rankings import all_to, derivative_fits, need_ranking


def is_numbered(ranking, thing):
    """Whether anything is a pair of a DERIVATIVE OF what is a RANKING and a FRACTION."""
    if not isinstance(thing, tuple) or len(thing) != 2:
        return False
    return derivative_fits(ranking, thing[0]) and is_fraction(thing[1])


def length_in(ranking, jet):
    """The LENGTH of a JET by what is a RANKING; what is no JET is refused."""
    if not isinstance(jet, tuple):
        raise BadJet()
    ahead = None
    length = 0
    for number, pair in enumerate(jet):
        if not is_numbered(ranking, pair) or (ahead is not None and pair[0] <= ahead):
            raise BadJet(number)
        ahead = pair[0]
        length = max(length, ahead[1] + ahead[2] + 1)
        if length > MOST_LENGTH:
            raise BadJet(number)
    due = places_to(ranking, length)
    for number, pair in enumerate(jet):
        # Rising pairs below the LENGTH are never more than are due.
        if pair[0] != due[number]:
            raise BadJet(number)
    if len(jet) < len(due):
        raise BadJet(len(jet))
    return length


def places_to(ranking, length):
    """A list of the DERIVATIVES that a JET of a LENGTH has, rising as tuples."""
    return sorted(all_to(ranking, length - 1)) if length > 0 else []


def length_of(ranking, jet):
    """The LENGTH of a JET."""
    need_ranking(ranking)
    return length_in(ranking, jet)


def cut_jet(ranking, jet, length):
    """The JET CUT to a LENGTH."""
    own = length_of(ranking, jet)
    need_length(length)
    if length > own:
        raise OutOfPlace("a JET isn't CUT to a greater LENGTH")
    return tuple([((name, by_x, by_y), number) for (name, by_x, by_y), number in jet if by_x + by_y < length])


def added_jets(ranking, jet, other):
    """The SUM of two JETS of one LENGTH, NUMBER by NUMBER."""
    own = length_of(ranking, jet)
    if length_of(ranking, other) != own:
        raise OutOfPlace("JETS of unlike LENGTHS have no SUM")
    return tuple([(derivative, sum_of(one, more)) for (derivative, one), (_, more) in zip(jet, other)])


def scaled_jet(ranking, jet, by):
    """The PRODUCT of a JET with a FRACTION."""
    length_of(ranking, jet)
    if not is_fraction(by):
        raise OutOfPlace("a JET is multiplied with a FRACTION alone")
    return tuple([(derivative, product(number, by)) for derivative, number in jet])


def data_of(ranking, chain, jet):
    """The JET's own DATA: the FREE ones in it that aren't nought."""
    need_chain(ranking, chain)
    length_in(ranking, jet)
    return tuple([pair for pair in jet if pair[1][0] != 0 and first_by(chain, pair[0]) is None])
