"""EDITS in words, SYSTEMS as texts, and both read."""

from rankedchains.errors import BadRow
from rankedchains.numbers import whole_text
from rankedchains.polytext import first_misfit, is_figures, poly_of_words, poly_text
from rankedchains.rankings import MOST_NAMES, SORTS
from rankedchains.system import System
from rankedchains.words import is_axis, is_name, words_of

MOST_NUMBER_FIGURES = 3

# Which rows of a SYSTEM's text are due behind a row.
ROWS_BEHIND = {"rank": ("tell", "assume"), "tell": ("tell", "assume"), "assume": ("assume",)}


def edit_text(edit):
    """An EDIT in words."""
    word = edit[0]
    if word == "many":
        return " ; ".join([edit_text(one) for one in edit[1]])
    if word == "take":
        return f"take {whole_text(edit[1])}"
    if word == "rank":
        sort, names, axes = edit[1]
        return " ".join(["rank", sort, *names, "/", *axes])
    if word == "drop":
        return "drop"
    return f"{word} {poly_text(edit[1])}"


def read_edit(words):
    """The EDIT, but "many", that a list of texts tells; None where they tell none by their form."""
    if not words:
        return None
    word = words[0]
    if word in ("tell", "assume"):
        return None if first_misfit(words[1:]) is not None else (word, poly_of_words(words[1:]))
    if word == "take":
        number = read_whole(words[1]) if len(words) == 2 else None
        return None if number is None else ("take", number)
    if word == "rank":
        return None if rank_misfit(words[1:]) is not None else ("rank", _ranking_of(words[1:]))
    return ("drop",) if word == "drop" and len(words) == 1 else None


def read_whole(text):
    """The whole number of one to three figures, without a 0 ahead but for 0 itself; or None."""
    if not is_figures(text, MOST_NUMBER_FIGURES) or (text[0] == "0" and text != "0"):
        return None
    return int(text)


def rank_misfit(words):
    """The number, from 1, of the first word that can't stand in a RANKING, or of one that lacks; or None."""
    if not words or words[0] not in SORTS:
        return 1
    at = 1
    while at < len(words) and words[at] != "/":
        if at > MOST_NAMES or not is_name(words[at]) or words[at] in words[1:at]:
            return at + 1
        at += 1
    if at == 1 or at == len(words):
        return at + 1
    misfit = _axes_misfit(words[at + 1 :])
    return None if misfit is None else at + 1 + misfit


def _axes_misfit(words):
    """The number, from 1, of the first word that can't stand among AXES, or of one that lacks; or None."""
    for at, word in enumerate(words):
        if not is_axis(word) or word in words[:at]:
            return at + 1
    return len(words) + 1 if "x" not in words else None


def _ranking_of(words):
    """The RANKING of words all of which can stand."""
    slash = words.index("/")
    return (words[0], tuple(words[1:slash]), tuple(words[slash + 1 :]))


def system_text(system):
    """A SYSTEM as a text."""
    rows = [edit_text(("rank", system.ranking()))]
    rows.extend([edit_text(("tell", polynomial)) for _, polynomial in system.told()])
    rows.extend([edit_text(("assume", polynomial)) for polynomial in system.assumed()])
    return "\n".join(rows)


def read_system(text):
    """The SYSTEM that a text tells."""
    if not isinstance(text, str):
        raise BadRow(0, 0)
    edits = []
    due = ("rank",)
    for at, row in enumerate(text.split("\n")):
        words = words_of(row)
        misfit = 0 if words is None else _row_misfit(words, due)
        if misfit is not None:
            raise BadRow(at + 1, misfit)
        edits.append(read_edit(words))
        due = ROWS_BEHIND[words[0]]
    system = System(edits[0][1])
    for edit in edits[1:]:
        system.do(edit)
    return system


def _row_misfit(words, due):
    """The number, from 1, of the first word of a row that can't stand, or of one that lacks; or None."""
    if words[0] not in due:
        return 1
    misfit = rank_misfit(words[1:]) if words[0] == "rank" else first_misfit(words[1:])
    return None if misfit is None else 1 + misfit
