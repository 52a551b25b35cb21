"""PAPER ROWS on EQUATIONS, and CLOSING PAPERS: made of what CLOSING did, looked at without any closing."""

from rankedchains.chains import equations_in, is_chain
from rankedchains.closing import closed_up
from rankedchains.conditions import conditions_by, need_closed, told_unlike, ways_to_meet
from rankedchains.errors import BadChain, BadPaper
from rankedchains.leaders import led_in
from rankedchains.normal import Putting
from rankedchains.polynomials import constant, derived, plus, scaled, times
from rankedchains.rankings import polynomial_fits
from rankedchains.reducepaper import cofactors
from rankedchains.spans import need_equations, rows_in, span_of
from rankedchains.words import is_among, is_axis

WHOLE = (((), (1, 1)),)


def paper_rows(ranking, equations, rows):
    """A list of the POLYNOMIALS to which PAPER ROWS on EQUATIONS come."""
    need_equations(ranking, equations)
    return rows_on(ranking, equations, rows)


def rows_on(ranking, equations, rows):
    """A list of the POLYNOMIALS to which PAPER ROWS come, on however many EQUATIONS."""
    if not isinstance(rows, tuple):
        raise BadPaper()
    found = []
    for number, row in enumerate(rows):
        polynomial = _come_to(ranking, equations, found, row)
        if polynomial is None:
            raise BadPaper(number)
        found.append(polynomial)
    return found


def _come_to(ranking, equations, ahead, row):
    """What a PAPER ROW comes to, by the rows ahead; None of what is none."""
    if not isinstance(row, tuple) or not row or not isinstance(row[0], str):
        return None
    if row[0] == "given" and len(row) == 2 and is_among(row[1], 0, len(equations) - 1):
        return equations[row[1]]
    if row[0] == "derived" and len(row) == 3 and is_row(ahead, row[1]) and _is_axis_of(ranking, row[2]):
        return derived(ahead[row[1]], row[2])
    if row[0] == "sum" and len(row) == 2 and _are_parts(ranking, ahead, row[1]):
        total = ()
        for polynomial, number in row[1]:
            total = plus(total, times(polynomial, ahead[number]))
        return total
    return None


def is_row(ahead, thing):
    """Whether anything is the number of one of the rows ahead."""
    return is_among(thing, 0, len(ahead) - 1)


def _is_axis_of(ranking, thing):
    """Whether anything is an AXIS of the RANKING."""
    return is_axis(thing) and thing in ranking[2]


def _are_parts(ranking, ahead, thing):
    """Whether anything is a tuple of pairs of a POLYNOMIAL OF the RANKING and a row ahead."""
    if not isinstance(thing, tuple):
        return False
    for part in thing:
        if not isinstance(part, tuple) or len(part) != 2:
            return False
        if not polynomial_fits(ranking, part[0]) or not is_row(ahead, part[1]):
            return False
    return True


class PaperMaker:
    """PAPER ROWS made along the journal of CLOSING: the rows of the CHAIN's EQUATIONS and of what is pending."""

    def __init__(self, equations):
        self.rows = [("given", number) for number, _ in enumerate(equations)]
        self.pending_rows = list(range(len(equations)))
        self.chain_rows = []
        self.derivatives = {}
        self.lowered = {}

    def follow(self, journal):
        """Makes rows of all that was done."""
        for step in journal:
            if step[0] == "rows":
                self.follow_rows(step)
            elif step[0] == "join":
                self.follow_join(step)
            else:
                self.follow_conditions(step)

    def follow_rows(self, step):
        """Rows of the NORMAL FORMS that count, and of the sums of them that are REDUCED ROWS."""
        _, putting, polynomials, sums = step
        forms = {}
        for made in sums:
            for number in made:
                if number not in forms:
                    forms[number] = self.form_row(putting, polynomials[number], self.pending_rows[number])
        self.pending_rows = [
            self.sum_row([(constant(made[number]), forms[number]) for number in sorted(made)]) for made in sums
        ]

    def follow_join(self, step):
        """Rows of all EQUATIONS, as they are when one more has joined and some have left."""
        _, number, left, place, pairs, putting = step
        joining = self.pending_rows[number]
        rest = self.pending_rows[:number] + self.pending_rows[number + 1 :]
        self.pending_rows = rest + [self.chain_rows[at] for at in left]
        stay = [row for at, row in enumerate(self.chain_rows) if at not in left]
        self.chain_rows = stay[:place] + [joining] + stay[place:]
        self.lowered = {}
        for at, (_, right) in enumerate(pairs):
            self.chain_rows[at] = self.sum_row([(WHOLE, self.chain_rows[at]), *self.taken_off(putting, right)])

    def follow_conditions(self, step):
        """Rows of the CONDITIONS that are pending, too."""
        _, putting, places = step
        for low, high in places:
            one_way, other_way = ways_to_meet(putting.pairs, low, high)
            one = self.derived_row(self.chain_rows[low], *one_way)
            other = self.derived_row(self.chain_rows[high], *other_way)
            row = self.sum_row([(WHOLE, other), (scaled(WHOLE, (-1, 1)), one)])
            self.pending_rows.append(self.form_row(putting, told_unlike(putting, low, high), row))

    def sum_row(self, parts):
        """The number of a row that is a sum of POLYNOMIALS times rows."""
        kept = [(polynomial, row) for polynomial, row in parts if polynomial]
        if len(kept) == 1 and kept[0][0] == WHOLE:
            return kept[0][1]
        self.rows.append(("sum", tuple(kept)))
        return len(self.rows) - 1

    def derived_row(self, row, by_x, by_y):
        """The number of a row derived as often as told."""
        for axis, many in (("x", by_x), ("y", by_y)):
            for _ in range(many):
                if (row, axis) not in self.derivatives:
                    self.rows.append(("derived", row, axis))
                    self.derivatives[(row, axis)] = len(self.rows) - 1
                row = self.derivatives[(row, axis)]
        return row

    def taken_off(self, putting, polynomial):
        """Parts whose sum is the POLYNOMIAL less its NORMAL FORM."""
        for derivative in putting.met_beyond(polynomial, self.lowered):
            number, by_x, by_y, put = putting.what_is_put(derivative)
            # What is put is lower, so that all that is MET by it has its row by now.
            parts = [(WHOLE, self.derived_row(self.chain_rows[number], by_x, by_y))]
            self.lowered[derivative] = self.sum_row(parts + self._lower(putting, put))
        return self._lower(putting, polynomial)

    def _lower(self, putting, polynomial):
        """Parts whose sum is the POLYNOMIAL less its NORMAL FORM, when all that is MET has its row."""
        return [(cofactor, self.lowered[derivative]) for derivative, cofactor in cofactors(putting, polynomial)]

    def form_row(self, putting, polynomial, row):
        """The number of a row of the NORMAL FORM of the POLYNOMIAL of a row."""
        minus = [(scaled(cofactor, (-1, 1)), lower) for cofactor, lower in self.taken_off(putting, polynomial)]
        return self.sum_row([(WHOLE, row), *minus])


def closing_paper(ranking, equations):
    """A CLOSING PAPER of what CLOSING tells."""
    need_equations(ranking, equations)
    return paper_of(closed_up(ranking, equations), equations)


def paper_of(closer, equations):
    """(ROWS, PLACES) of what CLOSING told at its end, of however many EQUATIONS."""
    if closer.outcome[0] == "contradiction":
        return paper_of_pending(closer, equations, closer.pending.index(WHOLE))
    maker = PaperMaker(equations)
    maker.follow(closer.journal)
    return but_what_counts(maker.rows, maker.chain_rows + maker.pending_rows)


def paper_of_pending(closer, equations, number):
    """(ROWS, PLACES) of one row of what is PENDING at the end of CLOSING, by its number."""
    maker = PaperMaker(equations)
    maker.follow(closer.journal)
    return but_what_counts(maker.rows, [maker.pending_rows[number]])


def but_what_counts(rows, places):
    """(ROWS, PLACES) without the rows that none of the places hangs on."""
    counts = {place: True for place in places}
    for number in reversed(range(len(rows))):
        if number in counts:
            for other in rows_within(rows[number]):
                counts[other] = True
    kept = sorted(counts)
    numbers = {number: at for at, number in enumerate(kept)}
    told = tuple([_renumbered(rows[number], numbers) for number in kept])
    return (told, tuple([numbers[place] for place in places]))


def rows_within(row):
    """A list of the numbers of the rows by which a PAPER ROW is told."""
    if row[0] == "derived":
        return [row[1]]
    if row[0] == "sum":
        return [number for _, number in row[1]]
    return []


def _renumbered(row, numbers):
    """A PAPER ROW by other numbers of the rows ahead."""
    if row[0] == "derived":
        return ("derived", numbers[row[1]], row[2])
    if row[0] == "sum":
        return ("sum", tuple([(polynomial, numbers[number]) for polynomial, number in row[1]]))
    return row


def check_closing(ranking, equations, told, paper):
    """Refuses a CLOSING PAPER that doesn't come out, of what is told of EQUATIONS."""
    need_equations(ranking, equations)
    if not _is_told(ranking, told):
        raise BadPaper("told")
    if not isinstance(paper, tuple) or len(paper) != 2:
        raise BadPaper()
    rows, places = paper
    if not isinstance(rows, tuple) or not isinstance(places, tuple):
        raise BadPaper()
    try:
        found = rows_on(ranking, equations, rows)
    except BadPaper as wrong:
        raise BadPaper(("row", wrong.place))
    _need_places(found, places, _rows_due(told))
    if told[0] != "contradiction":
        _need_all_in_span(ranking, equations, told[1], told[2] if told[0] == "knot" else ())


def _is_told(ranking, thing):
    """Whether anything is such as CLOSING tells, by its form."""
    if not isinstance(thing, tuple) or not thing or not isinstance(thing[0], str):
        return False
    if thing[0] == "contradiction":
        return len(thing) == 1
    if thing[0] == "closed":
        return len(thing) == 2 and _is_closed_chain(ranking, thing[1])
    if thing[0] == "knot" and len(thing) == 3:
        return is_chain(ranking, thing[1]) and _are_pending(ranking, thing[1], thing[2])
    return False


def _is_closed_chain(ranking, thing):
    """Whether anything is a CLOSED CHAIN."""
    try:
        need_closed(ranking, thing)
    except BadChain:
        return False
    return True


def _are_pending(ranking, chain, thing):
    """Whether anything is PENDING such as a KNOT has it by its CHAIN."""
    if not isinstance(thing, tuple) or not thing:
        return False
    putting = Putting(ranking, chain)
    for row in thing:
        if not polynomial_fits(ranking, row) or row == WHOLE or putting.principal_in(row):
            return False
        if led_in(ranking, row) is not None:
            return False
    return rows_in(ranking, thing) == thing


def _rows_due(told):
    """A list of the POLYNOMIALS whose rows PLACES are."""
    if told[0] == "contradiction":
        return [WHOLE]
    due = equations_in(told[1])
    return due + list(told[2]) if told[0] == "knot" else due


def _need_places(found, places, due):
    """Refuses PLACES by the first that isn't the row that is due, is one too many, or lacks."""
    for number in range(max(len(places), len(due))):
        if number >= len(places) or number >= len(due) or not is_row(found, places[number]):
            raise BadPaper(("place", number))
        if found[places[number]] != due[number]:
            raise BadPaper(("place", number))


def _need_all_in_span(ranking, equations, chain, pending):
    """Refuses the first EQUATION whose NORMAL FORM isn't IN the SPAN of PENDING, then the first such CONDITION."""
    putting = Putting(ranking, chain)
    span = span_of(ranking, pending)
    for number, polynomial in enumerate(equations):
        if not span.has(putting.form_of(polynomial)):
            raise BadPaper(("given", number))
    for low, high, polynomial in conditions_by(putting):
        if not span.has(polynomial):
            raise BadPaper(("condition", low, high))
