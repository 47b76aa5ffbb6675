"""The house's papers: for each question the claim that is true, and the paper by which the checker takes it."""

from wordlines.asking import asks_needed, plan
from wordlines.errors import NoName
from wordlines.maps import check_map
from wordlines.thin import MAY, SURELY, LaidWays, fate, laid_ways
from wordlines.words import checked_changes, letters_at, row_between


def first_gap(word, other, changes):
    """(PLACE, LETTERS) of the first place at which no changes lead from a word to another that is as long."""
    gaps = [place for place in range(len(word)) if other[place] not in letters_at(word, place, changes)]
    return gaps[0], tuple(letters_at(word, gaps[0], changes))


def paper_words(word, other, changes=None):
    """(claim, paper) of whether two words are one."""
    row = row_between(word, other, changes)
    known = checked_changes(changes)
    if row is not None:
        return ("one", word, other, known), row
    gap = first_gap(word, other, known) if len(word) == len(other) else None
    return ("unlike", word, other, known), gap


def paper_thin(wordmap, word):
    """(claim, paper) of how long a thin filling is."""
    check_map(wordmap)
    laid = laid_ways(wordmap, word)
    ways = laid.all_ways()
    return ("thin", wordmap.land.rows, laid.having, laid.lacking, len(ways)), (laid.least(), ways)


def ways_against(land, laid, village, told):
    """The ways where a village was asked, too, and is told the other way about than in all thin fillings."""
    if told == SURELY:
        return LaidWays(land, laid.having, (*laid.lacking, village)).all_ways()
    return LaidWays(land, (*laid.having, village), laid.lacking).all_ways()


def paper_fate(wordmap, word, village):
    """(claim, paper) of what becomes of a village that wasn't asked."""
    told = fate(wordmap, word, village)
    if village in wordmap.asked():
        raise NoName(village)
    laid = laid_ways(wordmap, word)
    claim = ("fate", wordmap.land.rows, laid.having, laid.lacking, village, told)
    if told == MAY:
        return claim, (laid.greatest(), laid.least(), laid.all_ways())
    return claim, (laid.least(), laid.all_ways(), ways_against(wordmap.land, laid, village, told))


def paper_plan(wordmap, word):
    """(claim, paper) of how few villages need be asked until it is known which thin filling is so."""
    asks = asks_needed(wordmap, word)
    laid = laid_ways(wordmap, word)
    claim = ("plan", wordmap.land.rows, laid.having, laid.lacking, asks)
    return claim, (plan(wordmap, word), laid.least(), laid.all_ways())
