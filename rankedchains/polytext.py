"""POLYNOMIALS as texts, and texts read as POLYNOMIALS."""

from rankedchains.errors import BadRow
from rankedchains.numbers import ONE, fraction, number_text, product, whole_text
from rankedchains.polynomials import add_term, polynomial_of
from rankedchains.words import is_axis, is_name, words_of

FIGURES = "0123456789"
MOST_FIGURES = 3
MOST_BOTTOM_FIGURES = 2
MOST_LETTERS_BEHIND = 6
MOST_FACTORS = 8


def derivative_text(derivative):
    """A DERIVATIVE as a text: its NAME, "." and its x's and y's where it is derived."""
    name, by_x, by_y = derivative
    if by_x + by_y == 0:
        return name
    return name + "." + "x" * by_x + "y" * by_y


def poly_text(one):
    """A POLYNOMIAL as a text."""
    if not one:
        return "0"
    pieces = []
    for monomial, number in one:
        sign = "-" if number[0] < 0 else "+"
        pieces.append(f"{sign} {_term_text(monomial, number)}")
    text = " ".join(pieces)
    if text.startswith("- "):
        return "-" + text[2:]
    return text[2:]


def _term_text(monomial, number):
    """One term as a text, without its sign."""
    size = (abs(number[0]), number[1])
    factors = [_power_text(derivative, power) for derivative, power in monomial]
    if size != ONE or not factors:
        factors = [number_text(size)] + factors
    return "*".join(factors)


def _power_text(derivative, power):
    """A DERIVATIVE and its POWER as a text."""
    if power == 1:
        return derivative_text(derivative)
    return f"{derivative_text(derivative)}^{whole_text(power)}"


def read_poly(text):
    """The POLYNOMIAL that a text tells."""
    if not isinstance(text, str):
        raise BadRow(0, 0)
    words = words_of(text)
    if words is None:
        raise BadRow(1, 0)
    misfit = first_misfit(words)
    if misfit is not None:
        raise BadRow(1, misfit)
    return poly_of_words(words)


def poly_of_words(words):
    """The POLYNOMIAL of words all of which can stand."""
    total = {}
    sign = "+"
    for at, word in enumerate(words):
        if at & 1:
            sign = word
        else:
            monomial, number = _read_term(word, at == 0)
            if sign == "-":
                number = (-number[0], number[1])
            add_term(total, monomial, number)
    return polynomial_of(total)


def first_misfit(words):
    """The number, from 1, of the first word that can't stand, or of one that lacks; or None."""
    for at, word in enumerate(words):
        if at & 1:
            fits = word in ("+", "-")
        else:
            fits = not term_misfit(word, first=at == 0)
        if not fits:
            return at + 1
    if len(words) & 1:
        return None
    return len(words) + 1


def term_misfit(word, *, first=False):
    """True where a word is no TERM, or, with first, not the first one of a text."""
    return _read_term(word, first) is None


def _read_term(word, first):
    """The MONOMIAL and the FRACTION of a TERM, or None of what is none."""
    negative = first and word.startswith("-")
    texts = (word[1:] if negative else word).split("*")
    if len(texts) > MOST_FACTORS:
        return None
    number = (-1, 1) if negative else ONE
    powers = {}
    for text in texts:
        factor = read_number(text)
        powered = read_power(text)
        if factor is not None:
            number = product(number, factor)
        elif powered is not None:
            derivative, power = powered
            powers[derivative] = powers.get(derivative, 0) + power
        else:
            return None
    return (tuple(sorted(powers.items())), number)


def read_number(text):
    """The FRACTION of a FACTOR in figures, or None of what is none."""
    top, stroke, bottom = text.partition("/")
    if not is_figures(top, MOST_FIGURES):
        return None
    if not stroke:
        return fraction(int(top))
    if not is_figures(bottom, MOST_BOTTOM_FIGURES) or int(bottom) == 0:
        return None
    return fraction(int(top), int(bottom))


def is_figures(text, most):
    """Whether a text is one figure at least, as many as told at most."""
    return 1 <= len(text) <= most and all([sign in FIGURES for sign in text])


def read_power(text):
    """The DERIVATIVE and the POWER of a FACTOR with a NAME, or None of what is none."""
    body, hat, figure = text.partition("^")
    derivative = read_derivative(body)
    if derivative is None:
        return None
    if not hat:
        return (derivative, 1)
    if not is_figures(figure, 1) or figure == "0":
        return None
    return (derivative, int(figure))


def read_derivative(text):
    """The DERIVATIVE that a FACTOR without "^" tells, or None of what is none."""
    name, dot, axes = text.partition(".")
    if not is_name(name):
        return None
    if dot and not 1 <= len(axes) <= MOST_LETTERS_BEHIND:
        return None
    if not all([is_axis(axis) for axis in axes]):
        return None
    return (name, axes.count("x"), axes.count("y"))
