"""FREE and PRINCIPAL DERIVATIVES, and which FREE ones are NEEDED to a LENGTH."""

from rankedchains.chains import first_by, need_chain
from rankedchains.errors import BadPaper, OutOfPlace
from rankedchains.normal import Putting
from rankedchains.polynomials import derivatives_in, of_derivative
from rankedchains.rankings import all_to, derivative_fits, need_derivative, rising
from rankedchains.words import is_among

MOST_LENGTH = 8


def is_free(ranking, chain, derivative):
    """Whether a DERIVATIVE is DERIVED of no LEADER."""
    need_chain(ranking, chain)
    need_derivative(ranking, derivative)
    return first_by(chain, derivative) is None


def free_to(ranking, chain, order):
    """The FREE DERIVATIVES up to an ORDER, rising."""
    need_chain(ranking, chain)
    return tuple([one for one in all_to(ranking, order) if first_by(chain, one) is None])


def principal_to(ranking, chain, order):
    """The PRINCIPAL DERIVATIVES up to an ORDER, rising."""
    need_chain(ranking, chain)
    return tuple([one for one in all_to(ranking, order) if first_by(chain, one) is not None])


def needed(ranking, chain, length):
    """The FREE DERIVATIVES that are NEEDED to a LENGTH, rising."""
    _need_length_by(ranking, chain, length)
    return tuple(rising(ranking, _shown_by(Putting(ranking, chain), length)))


def _need_length_by(ranking, chain, length):
    """Refuses no RANKING, no CHAIN by it, no LENGTH."""
    need_chain(ranking, chain)
    need_length(length)


def need_length(thing):
    """Refuses what is no LENGTH."""
    if not is_among(thing, 0, MOST_LENGTH):
        raise OutOfPlace("no LENGTH such as is due")


def _shown_by(putting, length):
    """A dict from what is NEEDED to a LENGTH to the first DERIVATIVE, rising, in whose NORMAL FORM each is."""
    below = all_to(putting.ranked_by, length - 1) if length > 0 else []
    found = {}
    for derivative in below:
        for free in derivatives_in(putting.form_of(of_derivative(derivative))):
            found.setdefault(free, derivative)
    return found


def need_paper(ranking, chain, length):
    """A NEED PAPER: of each FREE DERIVATIVE that is NEEDED one in whose NORMAL FORM it is."""
    _need_length_by(ranking, chain, length)
    shown = _shown_by(Putting(ranking, chain), length)
    return tuple([(free, shown[free]) for free in rising(ranking, shown)])


def check_needs(ranking, chain, length, paper):
    """The FREE DERIVATIVES that a NEED PAPER shows; one that doesn't come out is refused."""
    _need_length_by(ranking, chain, length)
    if not isinstance(paper, tuple):
        raise BadPaper()
    putting = Putting(ranking, chain)
    due = rising(ranking, _shown_by(putting, length))
    for number, pair in enumerate(paper):
        if number >= len(due) or not _is_shown(putting, length, pair, due[number]):
            raise BadPaper(number)
    if len(paper) < len(due):
        raise BadPaper(len(paper))
    return tuple(due)


def _is_shown(putting, length, thing, free):
    """Whether anything is a pair of a FREE DERIVATIVE and one below the LENGTH in whose NORMAL FORM it is."""
    if not isinstance(thing, tuple) or len(thing) != 2 or not derivative_fits(putting.ranked_by, thing[0]):
        return False
    if thing[0] != free or not derivative_fits(putting.ranked_by, thing[1]):
        return False
    _, by_x, by_y = thing[1]
    return by_x + by_y < length and free in derivatives_in(putting.form_of(of_derivative(thing[1])))
