"""RANKINGS and CHAINS that several tests look at, and POLYNOMIALS made for them."""

import functools
import random
from fractions import Fraction

from rankedchains.cases import cases
from rankedchains.chains import chain_in_order, derived_by, equation_of, least_common
from rankedchains.closing import closing
from rankedchains.errors import TooGreat
from rankedchains.leaders import led_of, monomials_compared
from rankedchains.numbers import fraction
from rankedchains.polynomials import (
    constant,
    derivatives_in,
    derived,
    less,
    of_derivative,
    plus,
    put_into,
    scaled,
    times,
    value_of,
)
from rankedchains.rankings import all_to, in_rank, rank_compared
from things import chain, p

UV = ("total", ("u", "v"), ("x", "y"))
YX = ("total", ("u", "v"), ("y", "x"))
NAMES = ("names", ("u", "v", "w"), ("x", "y"))
YX_NAMES = ("names", ("v", "u"), ("y", "x"))
ONE_AXIS = ("total", ("u", "v"), ("x",))

HEAT = (UV, chain("u.xx = u.y"))
WAVE = (YX, chain("v.x = 0", "u.yy = u.xx + 1/2*v"))
SWING = (ONE_AXIS, chain("v.x = -u", "u.x = v"))
SQUARES = (ONE_AXIS, chain("u.xx = u^2 + u.x*v", "v.xxx = 1/3*v"))
OPEN = (UV, chain("u.y = u", "u.x = u^2"))
TANGLED = (UV, chain("v.x = v.y + 1", "u.yy = u*v", "u.xy = u.y^2"))
BY_NAMES = (NAMES, chain("w.xx = w.y", "v.y = w^2", "u.x = v.x*w - u^2"))
EMPTY = (UV, ())
ALL = (HEAT, WAVE, SWING, SQUARES, OPEN, TANGLED, BY_NAMES, EMPTY)


def high(name, order):
    return of_derivative((name, order, 0))


def sum_of_terms(name, many):
    """So many unlike terms, each one DERIVATIVE of a name."""
    total = []
    for order in range(20):
        total.extend((name, by_x, order - by_x) for by_x in range(order + 1))
    return tuple(((((one, 1),), (1, 1))) for one in sorted(total[:many]))


def some_polynomial(chance, ranking, order=3, terms=3, factors=2):
    total = ()
    every = all_to(ranking, order)
    for _ in range(chance.randint(1, terms)):
        part = constant(fraction(chance.randint(-4, 4), chance.randint(1, 4)))
        for _ in range(chance.randint(0, factors)):
            part = times(part, of_derivative(chance.choice(every)))
        total = plus(total, part)
    return total


def put_by_hand(ranking, pairs, derivative):
    """What the first pair of whose LEADER it is a derivative puts."""
    for number, (leader, right) in enumerate(pairs):
        by_x, by_y = derivative[1] - leader[1], derivative[2] - leader[2]
        if leader[0] == derivative[0] and by_x >= 0 and by_y >= 0:
            return number, by_x, by_y, derived(derived(right, "y", many=by_y), "x", many=by_x)
    return None


def normal_by_hand(ranking, pairs, polynomial):
    """STEPS by the words of [20], each for the greatest PRINCIPAL DERIVATIVE."""
    while True:
        greatest = None
        for derivative in derivatives_in(polynomial):
            if put_by_hand(ranking, pairs, derivative) is not None:
                if greatest is None or rank_compared(ranking, derivative, greatest) > 0:
                    greatest = derivative
        if greatest is None:
            return polynomial
        polynomial = put_into(polynomial, greatest, put_by_hand(ranking, pairs, greatest)[3])


def rows_by_hand(ranking, polynomials):
    """REDUCED ROWS by a table of numbers, a column for each MONOMIAL, the greatest one first."""
    greater = functools.cmp_to_key(lambda one, other: monomials_compared(ranking, one, other))
    columns = sorted({monomial for one in polynomials for monomial, _ in one}, key=greater, reverse=True)
    rows = [[Fraction(*dict(one).get(monomial, (0, 1))) for monomial in columns] for one in polynomials]
    done = 0
    for column in range(len(columns)):
        found = [row for row in rows[done:] if row[column]]
        if not found:
            continue
        rows.remove(found[0])
        head = [number / found[0][column] for number in found[0]]
        rows = [[a - row[column] * b for a, b in zip(row, head)] for row in rows]
        rows.insert(done, head)
        done += 1
    return tuple(
        tuple(sorted((one, fraction(a.numerator, a.denominator)) for one, a in zip(columns, row) if a))
        for row in rows[:done]
    )


def polynomials_of(*texts):
    """A tuple of the POLYNOMIALS of texts."""
    return tuple(p(text) for text in texts)


def below(ranking, every, derivative):
    """Those of the DERIVATIVES that are below one."""
    return [one for one in every if rank_compared(ranking, one, derivative) < 0]


def some_chain(chance, ranking, most=4, order=3):
    """A CHAIN by the RANKING, of LEADERS and RIGHTS by chance."""
    every = all_to(ranking, order)
    leaders = []
    for one in chance.sample(every, min(most, len(every))):
        if all(derived_by(one, other) is None and derived_by(other, one) is None for other in leaders):
            leaders.append(one)
    free = [one for one in every if all(derived_by(other, one) is None for other in leaders)]
    pairs = []
    for leader in leaders:
        right = ()
        lower = below(ranking, free, leader)
        for _ in range(chance.randint(0, 2)):
            part = constant(fraction(chance.randint(-2, 2), chance.randint(1, 2)))
            for _ in range(chance.randint(0, 2) if lower else 0):
                part = times(part, of_derivative(chance.choice(lower)))
            right = plus(right, part)
        pairs.append((leader, right))
    return chain_in_order(ranking, pairs)


def some_sum(chance, polynomials):
    """A sum of POLYNOMIALS, each times a number by chance."""
    total = ()
    for one in polynomials:
        total = plus(total, scaled(one, fraction(chance.randint(-3, 3), chance.randint(1, 3))))
    return total


def told_by(ranking, pairs, number, common):
    leader, right = pairs[number]
    return derived(derived(right, "x", many=common[1] - leader[1]), "y", many=common[2] - leader[2])


def conditions_by_hand(ranking, pairs):
    told = []
    for low in range(len(pairs)):
        for high in range(low + 1, len(pairs)):
            common = least_common(pairs[low][0], pairs[high][0])
            if common is not None:
                unlike = less(told_by(ranking, pairs, low, common), told_by(ranking, pairs, high, common))
                told.append((low, high, normal_by_hand(ranking, pairs, unlike)))
    return told


def is_in_by_hand(ranking, polynomials, one):
    """Whether one more makes no more REDUCED ROWS."""
    return len(rows_by_hand(ranking, polynomials)) == len(rows_by_hand(ranking, [*polynomials, one]))


def closing_by_hand(ranking, equations):
    """What CLOSING tells, and a list of what joined, by the words of [32], whatever the bounds."""
    pairs, joined, pending = [], [], list(rows_by_hand(ranking, equations))
    while True:
        pending = list(rows_by_hand(ranking, [normal_by_hand(ranking, pairs, one) for one in pending]))
        if p("1") in pending:
            return ("contradiction",), joined
        led = {row: led_of(ranking, row) for row in pending if led_of(ranking, row) is not None}
        if led:
            least = in_rank(ranking, [leader for leader, _ in led.values()])[0]
            row = next(row for row in led if led[row][0] == least)
            left = [pair for pair in pairs if derived_by(least, pair[0]) is not None]
            pairs = list(chain_in_order(ranking, [pair for pair in pairs if pair not in left] + [led[row]]))
            for at, (leader, right) in enumerate(pairs):
                pairs[at] = (leader, normal_by_hand(ranking, pairs, right))
            joined.append((least, tuple(leader for leader, _ in left)))
            pending = [one for one in pending if one != row] + [equation_of(ranking, pair) for pair in left]
            continue
        more = [one for _, _, one in conditions_by_hand(ranking, pairs) if not is_in_by_hand(ranking, pending, one)]
        if not more:
            break
        pending = pending + more
    return (("knot", tuple(pairs), tuple(pending)) if pending else ("closed", tuple(pairs))), joined


def some_led(chance, ranking, order, terms, factors):
    """A POLYNOMIAL that is LED: a DERIVATIVE, and some terms of lower ones."""
    every = all_to(ranking, order)
    at = chance.randrange(1, len(every))
    total = of_derivative(every[at])
    for _ in range(terms):
        part = constant(fraction(chance.choice([1, 1, -1, 2, -2, 3]), chance.choice([1, 1, 1, 2])))
        for _ in range(chance.randint(1, factors)):
            part = times(part, of_derivative(chance.choice(every[:at])))
        total = plus(total, part)
    return total


def linear_to(chance, ranking, order, terms):
    """A sum of DERIVATIVES, each times a number."""
    every = all_to(ranking, order)
    return some_sum(chance, [of_derivative(chance.choice(every)) for _ in range(terms)])


def some_systems(seed, many):
    """RANKINGS and EQUATIONS by chance of which CLOSING tells something, and that."""
    chance = random.Random(seed)
    while many:
        ranking = chance.choice((UV, YX, NAMES, ONE_AXIS, YX_NAMES))
        order, terms, factors = chance.randint(1, 3), chance.randint(1, 3), chance.choice((1, 1, 2))
        equations = [some_led(chance, ranking, order, terms, factors) for _ in range(chance.randint(1, 3))]
        if chance.random() < 0.2:
            equations.append(some_polynomial(chance, ranking, 2))
        try:
            told = closing(ranking, tuple(equations))
        except TooGreat:
            continue
        many -= 1
        yield ranking, tuple(equations), told


def some_data(chance, ranking, pairs, order=2, most=6):
    """DATA by chance, of FREE DERIVATIVES up to an ORDER."""
    free = [one for one in all_to(ranking, order) if put_by_hand(ranking, pairs, one) is None]
    some = sorted(chance.sample(free, chance.randint(0, min(most, len(free)))))
    return tuple((one, fraction(chance.randint(-5, 5), chance.randint(1, 4))) for one in some)


def some_jet(chance, ranking, length):
    """A JET of a LENGTH, by chance."""
    every = sorted(one for one in all_to(ranking, 8) if one[1] + one[2] < length)
    return tuple((one, fraction(chance.randint(-3, 3), chance.randint(1, 3))) for one in every)


def taylor_by_hand(ranking, polynomial, jet, length):
    """TAYLOR by deriving the POLYNOMIAL and taking its VALUE, for each place for which all is in the JET."""
    numbers = dict(jet)
    order = max([one[1] + one[2] for one in derivatives_in(polynomial)], default=0)
    told = {}
    for total in range(length - order):
        for by_x in range(total + 1):
            if "y" in ranking[2] or by_x == total:
                one = derived(derived(polynomial, "x", many=by_x), "y", many=total - by_x)
                told[(by_x, total - by_x)] = value_of(one, numbers)
    return told


def factors_by_hand(ranking, polynomial):
    """FACTORS, and whether the last one is a REST, by taking the DERIVATIVES off one by one."""
    if not polynomial or any(not monomial for monomial, _ in polynomial):
        return (), False
    rows = [(dict(monomial), number) for monomial, number in polynomial]
    told = []
    for one in in_rank(ranking, list(derivatives_in(polynomial))):
        if all(one in row for row, _ in rows):
            told.append(of_derivative(one))
            least = min(row[one] for row, _ in rows)
            for row, _ in rows:
                row[one] -= least
    rest = tuple(sorted((tuple(sorted((k, n) for k, n in row.items() if n)), number) for row, number in rows))
    if not told or rest[0][0] == () and len(rest) == 1:
        return tuple(told), False
    return (*told, rows_by_hand(ranking, [rest])[0]), True


def cases_by_hand(ranking, equations, assumed=()):
    """A list of the LEAVES by the words of [61], whatever the bounds; CLOSING is told by itself."""
    told = closing_by_hand(ranking, (*equations, *assumed))[0]
    if told[0] == "knot":
        for row in told[2][::-1]:
            some, has_rest = factors_by_hand(ranking, row)
            if some and not (has_rest and is_in_by_hand(ranking, told[2], some[-1])):
                return [leaf for one in some for leaf in cases_by_hand(ranking, equations, (*assumed, one))]
    pending = told[2] if told[0] == "knot" else ()
    return [(told[0], assumed, told[1] if len(told) > 1 else (), pending)]


def some_products(seed, many, most=3):
    """RANKINGS and EQUATIONS by chance, among them products, of which CASES are told, and the LEAVES."""
    chance = random.Random(seed)
    while many:
        ranking = chance.choice((UV, YX, NAMES, ONE_AXIS, YX_NAMES))
        equations = []
        for _ in range(chance.randint(1, most)):
            one = some_led(chance, ranking, chance.randint(1, 2), chance.randint(1, 2), 1)
            for _ in range(chance.choice((0, 1, 1, 2))):
                one = times(one, of_derivative(chance.choice(all_to(ranking, 1))))
            if chance.random() < 0.1:
                one = plus(times(one, one), of_derivative(chance.choice(all_to(ranking, 1))))
            if chance.random() < 0.2:
                one = plus(of_derivative((ranking[1][0], 0, 0)), constant((chance.randint(-1, 1), 1)))
            equations.append(one)
        try:
            told = cases(ranking, tuple(equations))
        except TooGreat:
            continue
        many -= 1
        yield ranking, tuple(equations), told


def tree_at(tree, way):
    """The part of a TREE at a WAY."""
    for number in way:
        tree = tree[3][number]
    return tree


def tree_with(tree, way, part):
    """A TREE with another part at a WAY."""
    if not way:
        return part
    trees = tree[3][: way[0]] + (tree_with(tree[3][way[0]], way[1:], part),) + tree[3][way[0] + 1 :]
    return (*tree[:3], trees)
