"""Bundles: where the lines of many things run together."""

from wordlines.errors import NoCount, NoThings
from wordlines.gatherings import check_gathering
from wordlines.lines import both_asked, do_part
from wordlines.maps import WordMap
from wordlines.words import checked_changes, is_number_from, is_word

MOST_THINGS = 20


def check_things(things):
    """Refuse what is no tuple of at most twenty unlike words."""
    if not isinstance(things, tuple) or len(things) > MOST_THINGS:
        raise NoThings("this is no tuple of at most twenty things")
    if not all([is_word(thing) for thing in things]) or len(set(things)) < len(things):
        raise NoThings("these are no unlike words")


def check_many(many):
    """Refuse what is no whole number from 1 to 20."""
    if not is_number_from(many, 1, MOST_THINGS):
        raise NoCount(many)


def counts(gathering, things, changes=None):
    """For each border (NAME, OTHER, PARTED, COMMON), rising: for how many things neighbours part, and were asked."""
    check_gathering(gathering)
    check_things(things)
    known = checked_changes(changes)
    maps = [WordMap(gathering, thing, known) for thing in things]
    told = []
    for border in gathering.land.borders():
        apart = [wordmap for wordmap in maps if do_part(wordmap, border)]
        common = [wordmap for wordmap in maps if both_asked(wordmap, border)]
        told.append((*border, len(apart), len(common)))
    return tuple(told)


def corners_of(land, border):
    """The two corners of the edge between neighbours."""
    name, other = border
    row, column = max(land.spot(name), land.spot(other))
    if land.spot(name)[0] == land.spot(other)[0]:
        return ((row, column), (row + 1, column))
    return ((row, column), (row, column + 1))


def chained(border, borders, land):
    """The borders that hang together with this one by corners, rising."""
    chain = [border]
    at = 0
    while at < len(chain):
        corners = corners_of(land, chain[at])
        for other in borders:
            if other not in chain and any([corner in corners for corner in corners_of(land, other)]):
                chain.append(other)
        at += 1
    return tuple(sorted(chain))


def bundles(gathering, things, many=2, changes=None):
    """The borders at which neighbours part for so many things, those that hang together by corners in one; rising."""
    check_gathering(gathering)
    check_things(things)
    check_many(many)
    told = counts(gathering, things, changes)
    borders = [(name, other) for name, other, apart, common in told if apart >= many]
    return tuple(sorted({chained(border, borders, gathering.land) for border in borders}))
