"""Joins: one Gathering out of two that don't clash."""

from wordlines.errors import Clash, NoMap
from wordlines.gatherings import Gathering, key_of


def check_both(one, other):
    """Refuse what are no two Gatherings of alike Lands."""
    if not isinstance(one, Gathering):
        raise NoMap(0)
    if not isinstance(other, Gathering):
        raise NoMap(1)
    if one.land != other.land:
        raise NoMap(None)


def clashes(one, other):
    """The KEYs by which two Gatherings have tellings that aren't alike, rising."""
    check_both(one, other)
    by_key = {key_of(telling): telling for telling in one.tellings()}
    unlike = [telling for telling in other.tellings() if by_key.get(key_of(telling), telling) != telling]
    return tuple(sorted([key_of(telling) for telling in unlike]))


def joined(one, other):
    """A new Gathering of all tellings of two, those of the first ahead."""
    both = clashes(one, other)
    if both:
        raise Clash(both)
    ahead = one.tellings()
    behind = [telling for telling in other.tellings() if telling not in ahead]
    together = Gathering(one.land)
    for village, thing, word, teller, age, gatherer, sure in ahead + behind:
        # The one too many is refused here, with Full.
        together.put(village, thing, word, teller, age, gatherer, sure)
    together.settle()
    return together
