"""FRACTIONS: pairs (TOP, BOTTOM) in lowest terms, BOTTOM above 0."""

from math import gcd

from rankedchains.errors import OutOfPlace
from rankedchains.words import is_whole

NOUGHT = (0, 1)
ONE = (1, 1)


def is_fraction(thing):
    """Whether anything is a FRACTION."""
    if not isinstance(thing, tuple) or len(thing) != 2:
        return False
    top, bottom = thing
    return is_whole(top) and is_whole(bottom) and bottom > 0 and gcd(top, bottom) == 1


def fraction(top, bottom=1):
    """The FRACTION that is top by bottom."""
    if not is_whole(top) or not is_whole(bottom):
        raise OutOfPlace("a fraction is of whole numbers")
    if bottom == 0:
        raise OutOfPlace("nothing is divided by nought")
    if bottom < 0:
        return lowest(-top, -bottom)
    return lowest(top, bottom)


def lowest(top, bottom):
    """The same in lowest terms, of a bottom above 0."""
    common = gcd(top, bottom)
    return (top // common, bottom // common)


def sum_of(one, other):
    """Both together."""
    if one[1] == 1 and other[1] == 1:
        return (one[0] + other[0], 1)
    common = gcd(one[1], other[1])
    if common == 1:
        return (one[0] * other[1] + other[0] * one[1], one[1] * other[1])
    # Whatever divides both TOP and BOTTOM of the sum divides what the BOTTOMS have in common.
    own = one[1] // common
    top = one[0] * (other[1] // common) + other[0] * own
    rest = gcd(top, common)
    return (top // rest, own * (other[1] // rest))


def difference(one, other):
    """The first less the second."""
    return sum_of(one, (-other[0], other[1]))


def product(one, other):
    """One times the other."""
    if one[1] == 1 and other[1] == 1:
        return (one[0] * other[0], 1)
    # Each is in lowest terms, so that only the one's TOP and the other's BOTTOM have something in common.
    left = gcd(one[0], other[1])
    right = gcd(other[0], one[1])
    return ((one[0] // left) * (other[0] // right), (one[1] // right) * (other[1] // left))


def quotient(one, other):
    """The first divided by the second; by NOUGHT is refused as a BOTTOM 0 is."""
    return fraction(one[0] * other[1], one[1] * other[0])


def number_text(one):
    """The FRACTION as a text: TOP or TOP/BOTTOM."""
    if one[1] == 1:
        return whole_text(one[0])
    return f"{whole_text(one[0])}/{whole_text(one[1])}"


def whole_text(number):
    """A whole number as a text, of any length."""
    # Python itself refuses to write a number of some thousand figures at once.
    piece = 10**60
    rest = abs(number)
    pieces = []
    while rest >= piece:
        rest, low = divmod(rest, piece)
        pieces.append(str(low).zfill(60))
    pieces.append(str(rest))
    sign = "-" if number < 0 else ""
    return sign + "".join(pieces[::-1])
