"""A DESK: lines that change a SYSTEM, and lines that ask it."""

from rankedchains.cases import kept_leaves
from rankedchains.errors import (
    BadData,
    BadPolynomial,
    BadRanking,
    BadRow,
    Contradicted,
    Knotted,
    NoCase,
    NoEquation,
    Nothing,
    OutOfPlace,
    TooGreat,
    Twice,
)
from rankedchains.follows import breaking
from rankedchains.freedoms import free_to
from rankedchains.normal import normal
from rankedchains.numbers import number_text
from rankedchains.polytext import (
    derivative_text,
    first_misfit,
    poly_of_words,
    poly_text,
    read_derivative,
    read_number,
)
from rankedchains.series import number_at
from rankedchains.system import MOST_MANY, System
from rankedchains.systemtext import read_edit, read_system, read_whole, system_text
from rankedchains.words import words_of

FIRST_RANKING = ("total", ("u",), ("x",))
NO_LINE = "no line"
MANY_COUNTS = 4


def rows_text(rows):
    """Rows with ", " between, "none" of none."""
    return ", ".join(rows) if rows else "none"


def words_text(words):
    """Words with a blank between, "none" of none."""
    return " ".join(words) if words else "none"


def read_words(words):
    """The POLYNOMIAL that words tell, or None."""
    return poly_of_words(words) if first_misfit(words) is None else None


def read_signed(text):
    """The FRACTION that a text tells, perhaps with "-" right ahead, or None."""
    if not text.startswith("-"):
        return read_number(text)
    number = read_number(text[1:])
    return None if number is None else (-number[0], number[1])


def numbers_text(data):
    """DERIVATIVE and NUMBER of each of DATA."""
    return rows_text([f"{derivative_text(derivative)} {number_text(number)}" for derivative, number in data])


# Each question is answered by a function of the SYSTEM and the words behind the first one, with None of another form.


def answer_text(system, words):
    """The SYSTEM's text in one line."""
    return None if words else system_text(system).replace("\n", " ; ")


def answer_told(system, words):
    """NUMBER and POLYNOMIAL of each one that is TOLD."""
    return None if words else rows_text([f"{number} {poly_text(one)}" for number, one in system.told()])


def answer_leaves(system, words):
    """The words of the LEAVES."""
    return None if words else words_text([leaf[0] for leaf in system.leaves()])


def answer_kept(system, words):
    """The numbers of the KEPT LEAVES."""
    if words:
        return None
    return words_text([str(number) for number in kept_leaves(system.ranking(), system.equations())])


def answer_chain(system, words):
    """The pairs of the CHAIN of a LEAF."""
    case = read_whole(words[0]) if len(words) == 1 else None
    if case is None:
        return None
    return rows_text([f"{derivative_text(leader)} = {poly_text(right)}" for leader, right in system.chain(case)])


def answer_free(system, words):
    """The FREE DERIVATIVES of a LEAF up to an ORDER."""
    numbers = [read_whole(word) for word in words]
    if len(words) != 2 or None in numbers:
        return None
    free = free_to(system.ranking(), system.chain(numbers[0]), numbers[1])
    return rows_text([derivative_text(derivative) for derivative in free])


def answer_counts(system, words):
    """The first COUNTS of a LEAF."""
    case = read_whole(words[0]) if len(words) == 1 else None
    if case is None:
        return None
    return words_text([str(count) for count in system.counts(case, many=MANY_COUNTS)])


def answer_normal(system, words):
    """The NORMAL FORM of a POLYNOMIAL by the CHAIN of a LEAF."""
    case = read_whole(words[0]) if words else None
    polynomial = read_words(words[1:])
    if case is None or polynomial is None:
        return None
    return poly_text(normal(system.ranking(), system.chain(case), polynomial))


def answer_number(system, words):
    """The NUMBER of a DERIVATIVE by DATA and the CHAIN of a LEAF."""
    if len(words) < 2:
        return None
    case = read_whole(words[0])
    derivative = read_derivative(words[1])
    data = read_data(words[2:])
    if case is None or derivative is None or data is None:
        return None
    return number_text(number_at(system.ranking(), system.chain(case), derivative, data=data))


def read_data(words):
    """A rising tuple of the pairs that words tell by threes, ";" ahead of each, or None."""
    pairs = []
    for at in range(0, len(words), 3):
        row = words[at : at + 3]
        if len(row) < 3 or row[0] != ";":
            return None
        derivative = read_derivative(row[1])
        number = read_signed(row[2])
        if derivative is None or number is None:
            return None
        pairs.append((derivative, number))
    return tuple(sorted(pairs))


def answer_follows(system, words):
    """What becomes of a POLYNOMIAL."""
    polynomial = read_words(words)
    return None if polynomial is None else system.word_of(polynomial)


def answer_breaks(system, words):
    """BREAKING DATA of a POLYNOMIAL by the CHAIN of a LEAF."""
    case = read_whole(words[0]) if words else None
    polynomial = read_words(words[1:])
    if case is None or polynomial is None:
        return None
    data = breaking(system.ranking(), system.chain(case), polynomial)
    return numbers_text([] if data is None else data)


QUESTIONS = {
    "text": answer_text,
    "told": answer_told,
    "leaves": answer_leaves,
    "kept": answer_kept,
    "chain": answer_chain,
    "free": answer_free,
    "counts": answer_counts,
    "normal": answer_normal,
    "number": answer_number,
    "follows": answer_follows,
    "breaks": answer_breaks,
}


def read_edits(words):
    """The EDIT that words tell, a "many" of those with ";" between; None of what is none."""
    rows = [[]]
    for word in words:
        if word == ";":
            rows.append([])
        else:
            rows[-1].append(word)
    edits = [read_edit(row) for row in rows]
    if None in edits or len(edits) > MOST_MANY:
        return None
    return edits[0] if len(edits) == 1 else ("many", tuple(edits))


class Desk:
    """A SYSTEM that is changed and asked by lines."""

    def __init__(self):
        self._desk_system = System(FIRST_RANKING)

    def system(self):
        """A copy of the SYSTEM."""
        return self._desk_system.copied()

    def say(self, line):
        """The answer to a line."""
        words = words_of(line)
        if words is None or "\n" in line:
            return NO_LINE
        try:
            answer = self._answered(words)
        except BadRow as bad_row:
            return f"refused row {bad_row.row} {bad_row.word}"
        except BadPolynomial:
            return "refused polynomial"
        except BadRanking:
            return "refused ranking"
        except BadData:
            return "refused data"
        except Twice:
            return "refused twice"
        except OutOfPlace:
            return "refused place"
        except TooGreat:
            return "refused great"
        except NoEquation as no_equation:
            return f"refused equation {no_equation.number}"
        except NoCase as no_case:
            return f"refused case {no_case.number}"
        except Contradicted as contradicted:
            return f"refused contradicted {contradicted.number}"
        except Knotted as knotted:
            return f"refused knotted {knotted.number}"
        except Nothing:
            return "refused nothing"
        return NO_LINE if answer is None else answer

    def _answered(self, words):
        """The answer to words, None of no line."""
        if words[0] in QUESTIONS:
            answer = QUESTIONS[words[0]]
            return answer(self._desk_system, words[1:])
        if words == ["undo"]:
            self._desk_system.undo()
            return "done"
        if words == ["redo"]:
            self._desk_system.redo()
            return "done"
        if words[0] == "system":
            return self._replaced(words[1:])
        edit = read_edits(words)
        return None if edit is None else self._done(edit)

    def _replaced(self, words):
        """Another SYSTEM in the place of the one there."""
        if not words:
            return None
        self._desk_system = read_system(" ".join(words).replace(" ; ", "\n"))
        return "done"

    def _done(self, edit):
        """What is told of an EDIT that is done."""
        answer = self._desk_system.do(edit)
        if edit[0] == "tell":
            return str(answer)
        return poly_text(answer) if edit[0] in ("take", "drop") else "done"
