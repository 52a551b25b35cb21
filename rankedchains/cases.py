"""CASES of EQUATIONS: where CLOSING comes to a KNOT with a product, each of its FACTORS is put to them."""

from rankedchains.chains import equations_in
from rankedchains.closing import closed_up
from rankedchains.conditions import need_closed
from rankedchains.errors import TooGreat
from rankedchains.leaders import head_in, need_one
from rankedchains.normal import Putting
from rankedchains.numbers import ONE, quotient
from rankedchains.polynomials import is_number, of_derivative, polynomial_of, scaled
from rankedchains.rankings import need_ranking, rising
from rankedchains.spans import need_equations, span_of

MOST_LEAVES = 12


def factors(ranking, polynomial):
    """The FACTORS of a POLYNOMIAL: a tuple of POLYNOMIALS, () of what has none."""
    need_ranking(ranking)
    need_one(ranking, polynomial)
    return factors_in(ranking, polynomial)


def factors_in(ranking, polynomial):
    """The FACTORS of what is a POLYNOMIAL OF the RANKING."""
    common, rest = _taken_apart(ranking, polynomial)
    return (*common, rest) if rest is not None else common


def _taken_apart(ranking, polynomial):
    """A tuple of the DERIVATIVES, as POLYNOMIALS, that all MONOMIALS have, and the REST, None where there is none."""
    shared = _shared_powers(polynomial)
    if not shared:
        return (), None
    common = tuple([of_derivative(derivative) for derivative in rising(ranking, shared)])
    rest = polynomial_of({_without(monomial, shared): number for monomial, number in polynomial})
    if is_number(rest):
        return common, None
    return common, scaled(rest, quotient(ONE, head_in(ranking, rest)[1]))


def _shared_powers(polynomial):
    """A dict from the DERIVATIVES that all MONOMIALS have to the greatest powers that all have."""
    rows = [{derivative: power for derivative, power in monomial} for monomial, _ in polynomial]
    if not rows:
        return {}
    shared = [derivative for derivative in rows[0] if all([derivative in row for row in rows])]
    return {derivative: min([row[derivative] for row in rows]) for derivative in shared}


def _without(monomial, powers):
    """A MONOMIAL without the powers in a dict."""
    lower = [(derivative, power - powers.get(derivative, 0)) for derivative, power in monomial]
    return tuple([pair for pair in lower if pair[1] > 0])


class Case:
    """What CLOSING tells where some FACTORS are ASSUMED, and, of a KNOT that is SPLIT, the CASES in its place."""

    def __init__(self, equations, assumed, closer):
        self.there = (*equations, *assumed)
        self.assumed_there = assumed
        self.closer = closer
        self.split_row = None
        self.within = []

    def leaf(self):
        """The LEAF, where nothing is SPLIT."""
        word, *told = self.closer.outcome
        pairs = told[0] if told else ()
        pending = told[1] if len(told) > 1 else ()
        return (word, self.assumed_there, pairs, pending)


class Splitter:
    """CASES on their way: the LEAVES that there are so far, from the left."""

    def __init__(self, ranking):
        self.ranked_by = ranking
        self.ended = []

    def case_of(self, equations, assumed):
        """The CASE of EQUATIONS by what is ASSUMED, with all CASES in it."""
        case = Case(equations, assumed, closed_up(self.ranked_by, (*equations, *assumed)))
        if case.closer.outcome[0] == "knot":
            case.split_row = first_splitting(self.ranked_by, case.closer.pending)
        if case.split_row is None:
            self.end(case)
        else:
            parts = factors_in(self.ranked_by, case.closer.pending[case.split_row])
            case.within = [self.case_of(equations, (*assumed, part)) for part in parts]
        return case

    def end(self, case):
        """One more LEAF."""
        if len(self.ended) == MOST_LEAVES:
            raise TooGreat("CASES have too many LEAVES")
        self.ended.append(case)


def first_splitting(ranking, pending):
    """The number of the row of PENDING that SPLITS a KNOT, or None."""
    span = span_of(ranking, pending)
    # HEADS fall, and the row of the least one is looked at first.
    for number in reversed(range(len(pending))):
        common, rest = _taken_apart(ranking, pending[number])
        if common and (rest is None or not span.has(rest)):
            return number
    return None


def case_tree(ranking, equations):
    """The CASE of what are EQUATIONS, with all CASES in it, and a tuple of the LEAVES."""
    splitter = Splitter(ranking)
    whole = splitter.case_of(equations, ())
    return whole, tuple([case.leaf() for case in splitter.ended])


def leaves_of(ranking, equations):
    """A tuple of the LEAVES of what are EQUATIONS."""
    _, leaves = case_tree(ranking, equations)
    return leaves


def cases(ranking, equations):
    """A tuple of the LEAVES."""
    need_equations(ranking, equations)
    return leaves_of(ranking, equations)


def is_great(ranking, chain):
    """Whether a CHAIN is too great to be told CLOSED or not; what is no CHAIN, or none that is CLOSED, is refused."""
    try:
        need_closed(ranking, chain)
    except TooGreat:
        return True
    return False


def is_within(ranking, chain, other):
    """Whether the first CLOSED CHAIN lies WITHIN the other one."""
    # Both are looked at first: what can't be is told ahead of what is too great.
    if any([is_great(ranking, one) for one in (chain, other)]):
        raise TooGreat("a CHAIN has CONDITIONS that are too great")
    return lies_within(ranking, chain, other)


def lies_within(ranking, chain, other):
    """Whether all EQUATIONS of the other CHAIN GO OUT by the first one."""
    return all_go_out(Putting(ranking, chain), equations_in(other))


def all_go_out(putting, polynomials):
    """Whether all POLYNOMIALS GO OUT by the CHAIN that is put with."""
    # All of them are reckoned, whatever the first ones come to: TooGreat is where any of them is.
    return all([putting.form_of(polynomial) == () for polynomial in polynomials])


def kept_leaves(ranking, equations):
    """A tuple of the numbers of the KEPT LEAVES."""
    leaves = cases(ranking, equations)
    chains = {number: leaf[2] for number, leaf in enumerate(leaves) if leaf[0] == "closed"}
    kept = []
    for number, leaf in enumerate(leaves):
        if leaf[0] == "knot" or (leaf[0] == "closed" and not _is_had(ranking, chains, number)):
            kept.append(number)
    return tuple(kept)


def _is_had(ranking, chains, number):
    """Whether the closed LEAF of that number lies WITHIN another one that counts ahead of it."""
    own = chains[number]
    # Two that lie WITHIN one another are the same CHAIN.
    found = [lies_within(ranking, own, chains[other]) for other in chains if chains[other] != own]
    return any(found) or any([other < number for other in chains if chains[other] == own])
