"""By a "names" RANKING: what a CHAIN tells of its last NAMES ALONE."""

from rankedchains.chains import need_chain
from rankedchains.errors import OutOfPlace
from rankedchains.words import is_among


def alone(ranking, chain, many):
    """A pair (RANKING, CHAIN) of the last NAMES, as many as told, ALONE."""
    need_chain(ranking, chain)
    sort, names, axes = ranking
    if sort != "names":
        raise OutOfPlace("by a total RANKING no NAMES stand ALONE")
    if not is_among(many, 1, len(names)):
        raise OutOfPlace("not so many NAMES are there")
    last = names[len(names) - many :]
    return ((sort, last, axes), tuple([pair for pair in chain if pair[0][0] in last]))
