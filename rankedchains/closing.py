"""CLOSING: EQUATIONS led by ROUNDS to a CLOSED CHAIN, a CONTRADICTION or a KNOT."""

from rankedchains.chains import way_to
from rankedchains.conditions import conditions_by
from rankedchains.errors import TooGreat
from rankedchains.leaders import led_in
from rankedchains.normal import Putting
from rankedchains.numbers import ONE
from rankedchains.polynomials import constant, degree_of, less, of_derivative, order_of
from rankedchains.rankings import rank_key
from rankedchains.spans import need_equations, span_of

MOST_ROW_TERMS = 60
MOST_ROW_DEGREE = 8
MOST_ROW_ORDER = 12
MOST_JOINED = 24


class Closer:
    """CLOSING on its way: the CHAIN that is put with, PENDING, and a journal of all that was done.

    The journal has, in order, of what each step did so much that a paper can be made of it:
    ("rows", PUTTING, POLYNOMIALS, SUMS): NORMAL FORMS of these, and REDUCED ROWS, each told by its sum;
    ("join", ROW, LEFT, AT, PAIRS, PUTTING): a row's number, the numbers of the pairs that left, the place
    of the new one, all pairs ahead of their being put anew, and what is put with behind it;
    ("conditions", PUTTING, PLACES): pairs (I, J) of those that are pending, too.
    """

    def __init__(self, ranking, equations):
        self.ranked_by = ranking
        self.putting = Putting(ranking, ())
        self.pending = list(equations)
        self.joined = []
        self.journal = []
        self.outcome = None

    def run(self):
        """All ROUNDS; what is told then is the outcome."""
        self.take_rows(self.pending)
        while self.outcome is None:
            self.one_round()

    def one_round(self):
        """One of the ROUNDS; the last one sets what is told."""
        self.take_rows([self.putting.form_of(polynomial) for polynomial in self.pending])
        if constant(ONE) in self.pending:
            self.outcome = ("contradiction",)
            return
        need_small(self.pending)
        number = self.least_led()
        if number is not None:
            self.let_join(number)
        else:
            self.look_at_conditions()

    def take_rows(self, forms):
        """Makes PENDING the REDUCED ROWS of what is pending, by its forms."""
        rows = span_of(self.ranked_by, forms).rows_made()
        self.journal.append(("rows", self.putting, self.pending, [made for _, made in rows]))
        self.pending = [row for row, _ in rows]

    def least_led(self):
        """The number of the row of PENDING that is LED and has the least LEADER, or None."""
        found = {}
        for number, row in enumerate(self.pending):
            pair = led_in(self.ranked_by, row)
            if pair is not None:
                found[number] = rank_key(self.ranked_by, pair[0])
        return min(list(found), key=lambda number: found[number], default=None)

    def let_join(self, number):
        """The row of that number joins the CHAIN; what is DERIVED of its LEADER leaves; RIGHTS are put anew."""
        if len(self.joined) == MOST_JOINED:
            raise TooGreat("too many pairs join")
        pair = led_in(self.ranked_by, self.pending[number])
        chain = self.putting.pairs
        left = [at for at, (other, _) in enumerate(chain) if way_to(pair[0], other) is not None]
        stay = [other for at, other in enumerate(chain) if at not in left]
        pairs = sorted([*stay, pair], key=lambda other: rank_key(self.ranked_by, other[0]))
        putting = put_anew(self.ranked_by, pairs)
        self.joined.append((pair[0], tuple([chain[at][0] for at in left])))
        self.journal.append(("join", number, left, pairs.index(pair), pairs, putting))
        rest = self.pending[:number] + self.pending[number + 1 :]
        self.pending = rest + [less(of_derivative(chain[at][0]), chain[at][1]) for at in left]
        self.putting = putting

    def look_at_conditions(self):
        """CONDITIONS that aren't IN the SPAN of PENDING are pending, too; where all are, it has come to its end."""
        span = span_of(self.ranked_by, self.pending)
        more = [meeting for meeting in conditions_by(self.putting) if not span.has(meeting[2])]
        if more:
            self.journal.append(("conditions", self.putting, [(low, high) for low, high, _ in more]))
            self.pending = self.pending + [polynomial for _, _, polynomial in more]
        elif self.pending:
            self.outcome = ("knot", self.putting.pairs, tuple(self.pending))
        else:
            self.outcome = ("closed", self.putting.pairs)


def put_anew(ranking, pairs):
    """What puts by the pairs, rising, each RIGHT in its NORMAL FORM."""
    putting = Putting(ranking, ())
    for leader, right in pairs:
        # All that is MET by a RIGHT is below its LEADER, so that those ahead alone are put for it.
        form = putting.form_of(right)
        putting.pairs = (*putting.pairs, (leader, form))
    need_small([right for _, right in putting.pairs])
    return putting


def need_small(polynomials):
    """Refuses rows of too many terms, of too great a DEGREE, of too great an ORDER."""
    for one in polynomials:
        if len(one) > MOST_ROW_TERMS or degree_of(one) > MOST_ROW_DEGREE or order_of(one) > MOST_ROW_ORDER:
            raise TooGreat("a row of CLOSING has too many terms, too great a DEGREE or too great an ORDER")


def closed_up(ranking, equations):
    """CLOSING at its end, of however many EQUATIONS."""
    closer = Closer(ranking, equations)
    closer.run()
    return closer


def closing(ranking, equations):
    """What CLOSING tells: ("closed", CHAIN), ("contradiction",) or ("knot", CHAIN, PENDING)."""
    need_equations(ranking, equations)
    return closed_up(ranking, equations).outcome


def joinings(ranking, equations):
    """A list of (LEADER, LEFT) of all that joined, in order, LEFT the LEADERS that left for it."""
    need_equations(ranking, equations)
    return closed_up(ranking, equations).joined


def closed_chain(ranking, equations):
    """The CLOSED CHAIN, or None where it comes to none."""
    told = closing(ranking, equations)
    return told[1] if told[0] == "closed" else None
