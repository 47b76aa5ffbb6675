"""Habits: whether a line between two words may be a gatherer's way of writing them."""

from wordlines.ages import tellings_of_two


def in_both(ones, others):
    """What stands in both lists, rising."""
    return tuple(sorted({part for part in ones if part in others}))


def habit(gathering, thing, one, other, changes=None):
    """Of ("none",), ("shown", VILLAGE, TELLER), ("not", GATHERER) and ("may", ONES, OTHERS) the first that is so."""
    ones, others = tellings_of_two(gathering, thing, one, other, changes)
    if not ones or not others:
        return ("none",)
    tellers = in_both([(told[0], told[3]) for told in ones], [(told[0], told[3]) for told in others])
    if tellers:
        village, teller = tellers[0]
        return ("shown", village, teller)
    gatherers = in_both([told[5] for told in ones], [told[5] for told in others])
    if gatherers:
        return ("not", gatherers[0])
    return ("may", tuple(sorted({told[5] for told in ones})), tuple(sorted({told[5] for told in others})))
