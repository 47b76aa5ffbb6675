"""Near: how far villages are apart by all that was gathered there."""

from wordlines.gatherings import check_gathering
from wordlines.lines import both_asked, do_part
from wordlines.maps import WordMap
from wordlines.words import checked_changes


def all_maps(gathering, changes):
    """The maps of all things of a Gathering."""
    return [WordMap(gathering, thing, changes) for thing in gathering.things()]


def share_apart(maps, pair):
    """(PARTED, COMMON) of two villages: on how many maps they part, and on how many both were asked."""
    common = [wordmap for wordmap in maps if both_asked(wordmap, pair)]
    return len([wordmap for wordmap in common if do_part(wordmap, pair)]), len(common)


def apart(gathering, village, other, changes=None):
    """(PARTED, COMMON) of two villages: of how many things they have no word in common; None where COMMON is 0."""
    check_gathering(gathering)
    gathering.land.check_name(village)
    gathering.land.check_name(other)
    share = share_apart(all_maps(gathering, checked_changes(changes)), (village, other))
    return share if share[1] > 0 else None


def shares_around(gathering, village, changes):
    """The (PARTED, COMMON) of each other village that has a thing in common with this one, by names rising."""
    check_gathering(gathering)
    gathering.land.check_name(village)
    maps = all_maps(gathering, checked_changes(changes))
    shares = {other: share_apart(maps, (village, other)) for other in gathering.land.names() if other != village}
    return {other: shares[other] for other in shares if shares[other][1] > 0}


def is_less(share, other):
    """Whether the one PARTED / COMMON is below the other."""
    # Multiplied crosswise there is nothing to divide, so shares are compared without any rounding.
    return share[0] * other[1] < other[0] * share[1]


def nearest(gathering, village, changes=None):
    """The other villages of which PARTED / COMMON is least, rising."""
    shares = shares_around(gathering, village, changes)
    return tuple([name for name in shares if not any([is_less(shares[other], shares[name]) for other in shares])])


def farthest(gathering, village, changes=None):
    """The other villages of which PARTED / COMMON is greatest, rising."""
    shares = shares_around(gathering, village, changes)
    return tuple([name for name in shares if not any([is_less(shares[name], shares[other]) for other in shares])])
