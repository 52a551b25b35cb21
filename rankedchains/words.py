"""The least parts: whole numbers, NAMES, AXES, and the words of a row."""

AXES = ("x", "y")

LETTERS = "abcdefghijklmnopqrstuvwxyz"
MOST_LETTERS = 8


def is_whole(thing):
    """Whether anything is a whole number; True and False are none."""
    return isinstance(thing, int) and not isinstance(thing, bool)


def is_among(thing, least, most):
    """Whether anything is a whole number from the least to the most one."""
    return is_whole(thing) and is_whole(least) and is_whole(most) and least <= thing <= most


def is_name(thing):
    """Whether anything is a NAME: one to eight small letters."""
    if not isinstance(thing, str) or not 1 <= len(thing) <= MOST_LETTERS:
        return False
    return all([sign in LETTERS for sign in thing])


def is_axis(thing):
    """Whether anything is an AXIS."""
    return isinstance(thing, str) and thing in AXES


def words_of(row):
    """The words of a row, or None where not just one blank stands between."""
    if not isinstance(row, str):
        return None
    words = row.split(" ")
    if "" in words:
        return None
    return words
