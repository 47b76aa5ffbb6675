"""Asking: which villages to ask, so that it is known which thin filling is so."""

from wordlines.errors import TooMany
from wordlines.maps import check_map
from wordlines.thin import laid_ways

MOST_UNSURE = 6


def fillings(wordmap, word):
    """All thin fillings, rising."""
    check_map(wordmap)
    laid = laid_ways(wordmap, word)
    least = laid.least()
    unsure = [name for name in laid.greatest() if name not in least]
    if len(unsure) > MOST_UNSURE:
        raise TooMany(len(unsure))
    # A filling is thin just where it has, with each of its villages, all that this one draws in.
    found = {least: True}
    for name in unsure:
        drawn = laid.drawn_in(name)
        for filling in list(found):
            more = [other for other in unsure if other in drawn and other not in filling]
            found[tuple(sorted([*filling, *more]))] = True
    return tuple(sorted(list(found)))


def open_villages(left):
    """The villages that some of the fillings left have and others haven't, rising."""
    names = sorted({name for filling in left for name in filling})
    return [name for name in names if not all([name in filling for filling in left])]


def best_asking(left, known):
    """(ASKS, PLAN) of the fewest asks in the worst story; known keeps what was found for other fillings left."""
    if len(left) == 1:
        return 0, ()
    if left not in known:
        best = None
        # To ask a village of which all fillings left tell the same is an ask for nothing.
        for name in open_villages(left):
            asks_with, has = best_asking(tuple([filling for filling in left if name in filling]), known)
            asks_without, hasnt = best_asking(tuple([filling for filling in left if name not in filling]), known)
            asks = 1 + max(asks_with, asks_without)
            if best is None or asks < best[0]:
                best = (asks, (name, has, hasnt))
        known[left] = best
    return known[left]


def plan(wordmap, word):
    """A plan with the fewest asks: () where one filling is left, else (NAME, HAS, HASNT)."""
    return best_asking(fillings(wordmap, word), {})[1]


def asks_needed(wordmap, word):
    """How many villages must be asked, in the worst story, until it is known which thin filling is so."""
    return best_asking(fillings(wordmap, word), {})[0]
