"""A SYSTEM over EDITS: a RANKING, POLYNOMIALS TOLD and ASSUMED, all that was done, and what is asked of it."""

from rankedchains.cases import leaves_of
from rankedchains.counts import counts_to
from rankedchains.errors import Contradicted, Knotted, NoCase, NoEquation, Nothing, OutOfPlace, TooGreat, Twice
from rankedchains.follows import word_by
from rankedchains.followspaper import following
from rankedchains.leaders import need_one
from rankedchains.rankings import need_ranking
from rankedchains.series import LENGTH, jet_of
from rankedchains.words import is_among, is_whole

MOST_TOLD = 8
MOST_ASSUMED = 4
MOST_MANY = 8

# How many things stand behind the word of an EDIT.
EDIT_SIZES = {"tell": 1, "take": 1, "assume": 1, "drop": 0, "rank": 1, "many": 1}


def is_edit(thing):
    """Whether anything is an EDIT by its form."""
    if not _has_word(thing):
        return False
    return thing[0] != "many" or _are_edits(thing[1])


def _has_word(thing):
    """Whether anything is a tuple of the word of an EDIT and as many things."""
    if not isinstance(thing, tuple) or not thing or not isinstance(thing[0], str):
        return False
    return thing[0] in EDIT_SIZES and len(thing) == EDIT_SIZES[thing[0]] + 1


def _are_edits(thing):
    """Whether anything is a tuple of one to eight EDITS but "many", by their form."""
    if not isinstance(thing, tuple) or not 1 <= len(thing) <= MOST_MANY:
        return False
    return all([_has_word(one) and one[0] != "many" for one in thing])


def edited(state, edit):
    """What all is behind an EDIT, and what is told of it.

    All is (RANKING, TOLD, ASSUMED, next NUMBER), so that what is refused leaves it as it was.
    """
    word = edit[0]
    if word == "tell":
        return _with_told(state, edit[1])
    if word == "take":
        return _with_taken(state, edit[1])
    if word == "assume":
        return _with_assumed(state, edit[1])
    if word == "drop":
        return _with_dropped(state)
    if word == "rank":
        return _with_ranking(state, edit[1])
    answers = []
    for one in edit[1]:
        state, answer = edited(state, one)
        answers.append(answer)
    return state, tuple(answers)


def _with_told(state, polynomial):
    """One more POLYNOMIAL is TOLD: its NUMBER."""
    ranking, told, assumed, upcoming = state
    _need_new(ranking, [one for _, one in told], polynomial, MOST_TOLD)
    return (ranking, (*told, (upcoming, polynomial)), assumed, upcoming + 1), upcoming


def _need_new(ranking, there, polynomial, most):
    """Refuses what is no POLYNOMIAL OF the RANKING, stands there, or would be one too many."""
    need_one(ranking, polynomial)
    if polynomial in there:
        raise Twice("the POLYNOMIAL stands there")
    if len(there) >= most:
        raise TooGreat("no more POLYNOMIALS can stand there")


def _with_taken(state, number):
    """The POLYNOMIAL TOLD by a NUMBER goes: that POLYNOMIAL."""
    ranking, told, assumed, upcoming = state
    found = [one for own, one in told if is_whole(number) and own == number]
    if not found:
        raise NoEquation(number)
    return (ranking, tuple([pair for pair in told if pair[0] != number]), assumed, upcoming), found[0]


def _with_assumed(state, polynomial):
    """One more POLYNOMIAL is ASSUMED: how many are."""
    ranking, told, assumed, upcoming = state
    _need_new(ranking, assumed, polynomial, MOST_ASSUMED)
    return (ranking, told, (*assumed, polynomial), upcoming), len(assumed) + 1


def _with_dropped(state):
    """The last POLYNOMIAL that is ASSUMED goes: that POLYNOMIAL."""
    ranking, told, assumed, upcoming = state
    if not assumed:
        raise Nothing("nothing is ASSUMED")
    return (ranking, told, assumed[:-1], upcoming), assumed[-1]


def _with_ranking(state, ranking):
    """Another RANKING of the same NAMES and AXES: the one ahead."""
    ahead, told, assumed, upcoming = state
    need_ranking(ranking)
    if sorted(ranking[1]) != sorted(ahead[1]) or sorted(ranking[2]) != sorted(ahead[2]):
        raise OutOfPlace("a RANKING of other NAMES or AXES")
    return (ranking, told, assumed, upcoming), ahead


class System:
    """EQUATIONS TOLD and ASSUMED by a RANKING, over EDITS that are done, UNDONE and REDONE."""

    def __init__(self, ranking):
        need_ranking(ranking)
        self._state = (ranking, (), (), 0)
        # Each EDIT that stands with all that was ahead of it; each UNDONE one with all that was behind it.
        self._stands = []
        self._undone = []
        self._entries = []
        self._is_busy = False

    def do(self, edit):
        """Does an EDIT, and tells what there is to tell of it."""
        if not is_edit(edit):
            raise OutOfPlace("no EDIT by its form")
        return self._step(edit[0], edit)

    def tell(self, polynomial):
        """Tells a POLYNOMIAL: its NUMBER."""
        return self.do(("tell", polynomial))

    def take(self, number):
        """The POLYNOMIAL TOLD by a NUMBER goes: that POLYNOMIAL."""
        return self.do(("take", number))

    def assume(self, polynomial):
        """Assumes a POLYNOMIAL: how many are ASSUMED."""
        return self.do(("assume", polynomial))

    def drop(self):
        """The last POLYNOMIAL that is ASSUMED goes: that POLYNOMIAL."""
        return self.do(("drop",))

    def rank(self, ranking):
        """Another RANKING: the one ahead."""
        return self.do(("rank", ranking))

    def many(self, edits):
        """EDITS one behind the other, or none of them: a tuple of what is told of each."""
        return self.do(("many", edits))

    def undo(self):
        """The last EDIT that stands is UNDONE: that EDIT."""
        return self._step("undo", None)

    def redo(self):
        """The EDIT that was UNDONE last is REDONE: that EDIT."""
        return self._step("redo", None)

    def _step(self, word, edit):
        """Does, undoes or redoes, with its two entries in the LOG."""
        ended = "refused"
        self._entries.append(("begin", word))
        self._is_busy = True
        try:
            answer = self._moved(word, edit)
            ended = "done"
        finally:
            self._is_busy = False
            self._entries.append(("end", word, ended))
        return answer

    def _moved(self, word, edit):
        """Does, undoes or redoes, and tells what there is to tell of it."""
        if word == "undo":
            return self._gone_back()
        if word == "redo":
            return self._gone_on()
        behind, answer = edited(self._state, edit)
        self._stands.append((edit, self._state))
        self._undone = []
        self._state = behind
        return answer

    def _gone_back(self):
        """All is as ahead of the last EDIT: that EDIT."""
        if not self._stands:
            raise Nothing("nothing is there to be UNDONE")
        edit, ahead = self._stands.pop()
        self._undone.append((edit, self._state))
        self._state = ahead
        return edit

    def _gone_on(self):
        """All is as behind the EDIT that was UNDONE last: that EDIT."""
        if not self._undone:
            raise Nothing("nothing is there to be REDONE")
        edit, behind = self._undone.pop()
        self._stands.append((edit, self._state))
        self._state = behind
        return edit

    def told(self):
        """A list of the pairs (NUMBER, POLYNOMIAL) that are TOLD, by numbers."""
        return list(self._state[1])

    def assumed(self):
        """A tuple of the POLYNOMIALS that are ASSUMED, in order."""
        return self._state[2]

    def equations(self):
        """A tuple of the EQUATIONS: those TOLD, those ASSUMED behind them."""
        _, told, assumed, _ = self._state
        return tuple([polynomial for _, polynomial in told]) + assumed

    def ranking(self):
        """The RANKING."""
        return self._state[0]

    def edits(self):
        """A list of the EDITS that stand."""
        return [edit for edit, _ in self._stands]

    def log(self):
        """A list of the entries of the LOG."""
        return list(self._entries)

    def busy(self):
        """Whether an EDIT is being done."""
        return self._is_busy

    def leaves(self):
        """A tuple of the LEAVES of the EQUATIONS."""
        return leaves_of(self.ranking(), self.equations())

    def chain(self, case):
        """The CHAIN of a LEAF, by its number."""
        leaves = self.leaves()
        if not is_among(case, 0, len(leaves) - 1):
            raise NoCase(case)
        word, _, chain, _ = leaves[case]
        if word == "contradiction":
            raise Contradicted(case)
        if word == "knot":
            raise Knotted(case)
        return chain

    def jet(self, case, *, data=(), length=LENGTH):
        """The JET OF DATA by the CHAIN of a LEAF."""
        return jet_of(self.ranking(), self.chain(case), data=data, length=length)

    def counts(self, case, *, many=6):
        """A list of the COUNTS of the CHAIN of a LEAF."""
        return counts_to(self.ranking(), self.chain(case), many)

    def word_of(self, polynomial):
        """What becomes of a POLYNOMIAL: "holds", "breaks" or "open"."""
        need_one(self.ranking(), polynomial)
        return word_by(self.ranking(), self.leaves(), polynomial)

    def follows_paper(self, polynomial):
        """A FOLLOWS PAPER of a POLYNOMIAL, None where it is "open"."""
        need_one(self.ranking(), polynomial)
        return following(self.ranking(), self.equations(), polynomial)

    def copied(self):
        """Another one that goes on by itself."""
        other = System(self.ranking())
        other._state = self._state
        other._stands = list(self._stands)
        other._undone = list(self._undone)
        other._entries = list(self._entries)
        return other

    def __eq__(self, other):
        return isinstance(other, System) and self._state[:3] == other._state[:3]

    def __len__(self):
        return len(self._state[1])

    def __repr__(self):
        return f"System({len(self._state[1])}, {len(self._state[2])})"
