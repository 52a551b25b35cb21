"""COMPLETED CHAINS: the NORMAL FORM of each PRINCIPAL CONE, and the GAPS between them."""

from rankedchains.chains import need_chain, way_to
from rankedchains.cones import holds, principal_cones
from rankedchains.normal import Putting
from rankedchains.polynomials import derived, less, of_derivative
from rankedchains.words import AXES


def completed(ranking, chain):
    """(DERIVATIVE, WAYS, NORMAL FORM) of each PRINCIPAL CONE, in their order."""
    need_chain(ranking, chain)
    return _completed_by(Putting(ranking, chain))


def _completed_by(putting):
    """(DERIVATIVE, WAYS, NORMAL FORM) of each PRINCIPAL CONE, by the CHAIN that is put with."""
    cones = principal_cones(putting.ranked_by, putting.pairs)
    return tuple([(one, ways, putting.form_of(of_derivative(one))) for one, ways in cones])


def gaps(ranking, chain):
    """(DERIVATIVE, AXIS, GAP) of each one that is COMPLETED, by each AXIS that isn't among its WAYS."""
    need_chain(ranking, chain)
    putting = Putting(ranking, chain)
    rows = _completed_by(putting)
    told = []
    for derivative, ways, form in rows:
        for axis in AXES:
            if axis in ranking[2] and axis not in ways:
                told.append((derivative, axis, _gap(putting, rows, derivative, form, axis)))
    return tuple(told)


def _gap(putting, rows, derivative, form, axis):
    """What the NORMAL FORM tells, derived by an AXIS, less what the one tells whose CONE has it."""
    name, by_x, by_y = derivative
    above = (name, by_x + 1, by_y) if axis == "x" else (name, by_x, by_y + 1)
    other, _, other_form = [row for row in rows if holds((row[0], row[1]), above)][0]
    more_by_x, more_by_y = way_to(other, above)
    told = derived(derived(other_form, "x", many=more_by_x), "y", many=more_by_y)
    return putting.form_of(less(derived(form, axis), told))


def has_gaps(ranking, chain):
    """Whether a GAP isn't nought."""
    return any([gap != () for _, _, gap in gaps(ranking, chain)])
