"""RANKINGS and CHAINS that several tests look at, and POLYNOMIALS made for them."""

from rankedchains.numbers import fraction
from rankedchains.polynomials import constant, of_derivative, plus, times
from rankedchains.rankings import all_to
from things import chain

UV = ("total", ("u", "v"), ("x", "y"))
YX = ("total", ("u", "v"), ("y", "x"))
NAMES = ("names", ("u", "v", "w"), ("x", "y"))
ONE_AXIS = ("total", ("u", "v"), ("x",))

HEAT = (UV, chain("u.xx = u.y"))
WAVE = (YX, chain("v.x = 0", "u.yy = u.xx + 1/2*v"))
SWING = (ONE_AXIS, chain("v.x = -u", "u.x = v"))
SQUARES = (ONE_AXIS, chain("u.xx = u^2 + u.x*v", "v.xxx = 1/3*v"))
OPEN = (UV, chain("u.y = u", "u.x = u^2"))
TANGLED = (UV, chain("v.x = v.y + 1", "u.yy = u*v", "u.xy = u.y^2"))
BY_NAMES = (NAMES, chain("w.xx = w.y", "v.y = w^2", "u.x = v.x*w - u^2"))
EMPTY = (UV, ())
ALL = (HEAT, WAVE, SWING, SQUARES, OPEN, TANGLED, BY_NAMES, EMPTY)


def high(name, order):
    return of_derivative((name, order, 0))


def sum_of_terms(name, many):
    """So many unlike terms, each one DERIVATIVE of a name."""
    total = []
    for order in range(20):
        total.extend((name, by_x, order - by_x) for by_x in range(order + 1))
    return tuple(((((one, 1),), (1, 1))) for one in sorted(total[:many]))


def some_polynomial(chance, ranking, order=3, terms=3, factors=2):
    total = ()
    every = all_to(ranking, order)
    for _ in range(chance.randint(1, terms)):
        part = constant(fraction(chance.randint(-4, 4), chance.randint(1, 4)))
        for _ in range(chance.randint(0, factors)):
            part = times(part, of_derivative(chance.choice(every)))
        total = plus(total, part)
    return total
