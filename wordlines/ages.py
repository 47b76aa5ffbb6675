"""Ages: from which age on tellers say one word, and younger ones another."""

from wordlines.errors import NoWord
from wordlines.gatherings import OLDEST, check_gathering
from wordlines.words import are_one, check_word, checked_changes


def tellings_of_two(gathering, thing, one, other, changes):
    """The sure tellings of a thing that mean the one word, and those that mean the other."""
    check_gathering(gathering)
    check_word(thing)
    check_word(one)
    check_word(other)
    known = checked_changes(changes)
    if are_one(one, other, known):
        raise NoWord(other)
    sure = [telling for telling in gathering.tellings() if telling[1] == thing and telling[6]]
    ones = [telling for telling in sure if are_one(telling[2], one, known)]
    others = [telling for telling in sure if are_one(telling[2], other, known)]
    return ones, others


def how_otherwise(ones, others, age):
    """How many say otherwise than that tellers of this age and older say the one word, younger ones the other."""
    young_ones = [telling for telling in ones if telling[4] < age]
    old_others = [telling for telling in others if telling[4] >= age]
    return len(young_ones) + len(old_others)


def age_cut(gathering, thing, one, other, changes=None):
    """The (AGE, HOW) with the least number HOW that say otherwise, AGE the least with it."""
    ones, others = tellings_of_two(gathering, thing, one, other, changes)
    # The cut above the oldest age lets all of them say the other word.
    how, age = min([(how_otherwise(ones, others, cut), cut) for cut in range(OLDEST + 2)])
    return age, how
