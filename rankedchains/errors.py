"""What is refused, by classes of errors: each has the fields that tell where."""


class ChainError(ValueError):
    """Any refusal of what is handed in."""


class BadRow(ChainError):
    """A row of a text in which a word can't stand."""

    def __init__(self, row, word):
        ChainError.__init__(self, "a word of a row can't stand where it does")
        self.row = row
        self.word = word


class BadPolynomial(ChainError):
    """No POLYNOMIAL, or none that is meant."""

    def __init__(self, number=None):
        ChainError.__init__(self, "no POLYNOMIAL such as is due")
        self.number = number


class BadRanking(ChainError):
    """No RANKING."""

    def __init__(self, place=None):
        ChainError.__init__(self, "no RANKING")
        self.place = place


class BadChain(ChainError):
    """No CHAIN by a RANKING, or none that is meant."""

    def __init__(self, place=None):
        ChainError.__init__(self, "no CHAIN such as is due")
        self.place = place


class BadData(ChainError):
    """No DATA by a RANKING and a CHAIN."""

    def __init__(self, place=None):
        ChainError.__init__(self, "no DATA by the CHAIN")
        self.place = place


class BadJet(ChainError):
    """No JET by a RANKING."""

    def __init__(self, place=None):
        ChainError.__init__(self, "no JET by the RANKING")
        self.place = place


class BadPaper(ChainError):
    """A paper that doesn't come out."""

    def __init__(self, place=None):
        ChainError.__init__(self, "the paper doesn't come out")
        self.place = place


class Twice(ChainError):
    """What stands there as it is."""


class OutOfPlace(ChainError):
    """What can't be meant at the place at which it is handed in."""


class TooGreat(ChainError):
    """What would be above a bound on the way."""


class MissError(LookupError):
    """Any refusal of what isn't there."""


class NoUnknown(MissError):
    """No unknown of that name."""

    def __init__(self, name):
        MissError.__init__(self, "no unknown is called so")
        self.name = name


class NoEquation(MissError):
    """No equation of that number."""

    def __init__(self, number):
        MissError.__init__(self, "no equation has that number")
        self.number = number


class NoCase(MissError):
    """No case of that number."""

    def __init__(self, number):
        MissError.__init__(self, "no case has that number")
        self.number = number


class Nothing(MissError):
    """Nothing is there to be taken."""


class CaseError(RuntimeError):
    """Any refusal for how a case ended."""


class Contradicted(CaseError):
    """The case of that number is a contradiction."""

    def __init__(self, number):
        CaseError.__init__(self, "the case is a contradiction")
        self.number = number


class Knotted(CaseError):
    """The case of that number is a knot."""

    def __init__(self, number):
        CaseError.__init__(self, "the case is a knot")
        self.number = number
