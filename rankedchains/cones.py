"""CONES of DERIVATIVES: all FREE and all PRINCIPAL ones of a CHAIN, told by columns, and CONE PAPERS."""

from rankedchains.chains import first_by, need_chain
from rankedchains.errors import BadPaper, OutOfPlace
from rankedchains.rankings import derivative_fits, need_derivative, need_ranking
from rankedchains.words import AXES, is_axis

WAYS_ALL = ((), ("x",), ("y",), ("x", "y"))


def free_cones(ranking, chain):
    """The CONES of all FREE DERIVATIVES, column by column."""
    need_chain(ranking, chain)
    return tuple([cone for free, _ in _columns(ranking, chain) for cone in free])


def principal_cones(ranking, chain):
    """The CONES of all PRINCIPAL DERIVATIVES, column by column."""
    need_chain(ranking, chain)
    return tuple([cone for _, principal in _columns(ranking, chain) for cone in principal])


def _columns(ranking, chain):
    """A list of the pairs (FREE CONES, PRINCIPAL CONES) of all columns, name by name."""
    _, names, axes = ranking
    told = []
    for name in names:
        places = [(by_x, by_y) for (other, by_x, by_y), _ in chain if other == name]
        if not places:
            told.append(([((name, 0, 0), _all_ways(axes))], []))
        elif "y" in axes:
            told.extend(_columns_of(name, places))
        else:
            last = places[0][0]
            free = [((name, by_x, 0), ()) for by_x in range(last)]
            told.append((free, [((name, last, 0), ("x",))]))
    return told


def _all_ways(axes):
    """The WAYS by all AXES of a RANKING."""
    return tuple([axis for axis in AXES if axis in axes])


def _columns_of(name, places):
    """The columns of a name, by two AXES, with LEADERS at the places (I, J)."""
    last = max([by_x for by_x, _ in places])
    told = []
    for column in range(last + 1):
        # To the right of the last LEADER all columns are alike, so that one CONE has them all.
        free_ways = ("x",) if column == last else ()
        principal_ways = ("x", "y") if column == last else ("y",)
        ends = [by_y for by_x, by_y in places if by_x <= column]
        if not ends:
            told.append(([((name, column, 0), ("y",))], []))
        else:
            free = [((name, column, by_y), free_ways) for by_y in range(min(ends))]
            told.append((free, [((name, column, min(ends)), principal_ways)]))
    return told


def is_cone(ranking, thing):
    """Whether anything is a CONE by the RANKING."""
    need_ranking(ranking)
    return cone_fits(ranking, thing)


def cone_fits(ranking, thing):
    """Whether anything is a CONE by what is a RANKING."""
    if not isinstance(thing, tuple) or len(thing) != 2:
        return False
    derivative, ways = thing
    if not derivative_fits(ranking, derivative) or not isinstance(ways, tuple):
        return False
    # Each is looked at first, so that nothing but texts is compared.
    return all([is_axis(axis) and axis in ranking[2] for axis in ways]) and ways in WAYS_ALL


def cone_has(ranking, cone, derivative):
    """Whether a CONE has a DERIVATIVE."""
    need_ranking(ranking)
    if not cone_fits(ranking, cone):
        raise OutOfPlace("no CONE by the RANKING")
    need_derivative(ranking, derivative)
    return holds(cone, derivative)


def holds(cone, derivative):
    """Whether a CONE has a DERIVATIVE, of such as are OF one RANKING."""
    return _share_one(cone, (derivative, ()))


def _share_one(one, other):
    """Whether two CONES have a DERIVATIVE in common."""
    if one[0][0] != other[0][0]:
        return False
    return _meet(one, other, 1, "x") and _meet(one, other, 2, "y")


def _meet(one, other, place, axis):
    """Whether two CONES have a number in common by which their DERIVATIVES are derived by an AXIS."""
    low, high = one[0][place], other[0][place]
    if low > high:
        return axis in other[1]
    return low == high or axis in one[1]


def check_cones(ranking, chain, paper):
    """How many CONES a CONE PAPER has; one that doesn't come out is refused."""
    need_chain(ranking, chain)
    if not isinstance(paper, tuple) or len(paper) != 2:
        raise BadPaper()
    free, principal = paper
    if not isinstance(free, tuple) or not isinstance(principal, tuple):
        raise BadPaper()
    ahead = []
    for word, cones in (("free", free), ("principal", principal)):
        for number, cone in enumerate(cones):
            if not cone_fits(ranking, cone) or not _is_all(word, chain, cone) or _shares(cone, ahead):
                raise BadPaper((word, number))
            ahead.append(cone)
    lacking = _order_lacking(ranking, ahead)
    if lacking is not None:
        raise BadPaper(("lacks", lacking))
    return len(ahead)


def _is_all(word, chain, cone):
    """Whether all DERIVATIVES of a CONE are FREE, or all PRINCIPAL, as the word says."""
    if word == "principal":
        # Whatever is DERIVED of a PRINCIPAL one is PRINCIPAL.
        return first_by(chain, cone[0]) is not None
    return not _shares(cone, [(leader, ("x", "y")) for leader, _ in chain])


def _shares(cone, others):
    """Whether a CONE has a DERIVATIVE that one of the others has."""
    return any([_share_one(cone, other) for other in others])


def many_of(cone, order):
    """How many DERIVATIVES of an ORDER a CONE has."""
    (_, by_x, by_y), ways = cone
    beyond = order - by_x - by_y
    if beyond < 0:
        return 0
    if ways == ():
        return 1 if beyond == 0 else 0
    return beyond + 1 if len(ways) == 2 else 1


def greatest_corner(cones):
    """The greatest ORDER of a DERIVATIVE of which a CONE comes: behind it numbers of DERIVATIVES grow evenly."""
    return max([corner[1] + corner[2] for corner, _ in cones], default=0)


def _order_lacking(ranking, cones):
    """The least ORDER of which a DERIVATIVE is in none of the CONES, that have none in common; or None."""
    _, names, axes = ranking
    everywhere = [((name, 0, 0), _all_ways(axes)) for name in names]
    # What grows evenly on both sides, and is alike at two ORDERS behind all corners, is alike for ever.
    for order in range(greatest_corner(cones) + 3):
        due = sum([many_of(cone, order) for cone in everywhere])
        if sum([many_of(cone, order) for cone in cones]) != due:
            return order
    return None
