"""Thin lines: how short the line about a word can be through villages that weren't asked."""

from wordlines.maps import check_map
from wordlines.words import check_word

HAS = "has"
SURELY = "surely"
MAY = "may"
NOT = "not"


def reached(starts, beside, barred):
    """For each village that steps lead to, barred ones left out, the village ahead of it (None for a start)."""
    ahead = {name: None for name in starts}
    waiting = list(starts)
    at = 0
    while at < len(waiting):
        name = waiting[at]
        for other in beside[name]:
            if other not in ahead and (name, other) not in barred:
                ahead[other] = name
                waiting.append(other)
        at += 1
    return ahead


def row_to(goal, ahead):
    """The villages from a start to the goal, by the village ahead of each."""
    row = [goal]
    while ahead[row[-1]] is not None:
        row.append(ahead[row[-1]])
    return row[::-1]


class LaidWays:
    """Ways without a common border from villages that have a word to such as haven't, as many as there can be.

    Each way crosses each line, at a border of its own, so no line is shorter than there are ways. And there is one as
    short: the line about all villages that one more way could come to, which finds no goal where no more can be laid.
    """

    def __init__(self, land, having, lacking):
        self.beside = {name: land.neighbours(name) for name in land.names()}
        self.having = having
        self.lacking = lacking
        self.unasked = tuple([name for name in land.names() if name not in having and name not in lacking])
        # The steps (NAME, OTHER) that the ways take; of a border at most one of its two steps.
        self.taken = {}
        while self.lay_one_more():
            pass

    def lay_one_more(self):
        """Lay one more way; whether it could be laid."""
        ahead = reached(self.having, self.beside, self.taken)
        goals = [name for name in ahead if name in self.lacking]
        if not goals:
            return False
        # The first goal that was come to has no other on the row that leads to it.
        row = row_to(goals[0], ahead)
        for name, other in zip(row, row[1:]):
            # Two ways that would cross a border against each other go on as each other, and leave it alone.
            if (other, name) in self.taken:
                del self.taken[(other, name)]
            else:
                self.taken[(name, other)] = True
        return True

    def way_from(self, start, left):
        """The villages of a way from a start, by steps that are left; these steps are taken off."""
        way = [start]
        while way[-1] not in self.lacking:
            name = way[-1]
            other = [near for near in self.beside[name] if (name, near) in left][0]
            del left[(name, other)]
            if other in way:
                # Steps that lead back to a village on the way are no part of it.
                del way[way.index(other) + 1:]
            else:
                way.append(other)
        return tuple(way)

    def all_ways(self):
        """All the ways, each a tuple of villages."""
        left = {step: True for step in self.taken}
        ways = []
        for start in sorted([name for name, other in self.taken if name in self.having]):
            ways.append(self.way_from(start, left))
        return tuple(ways)

    def least(self):
        """The villages not asked that are in each thin filling, rising."""
        near = reached(self.having, self.beside, self.taken)
        return tuple([name for name in self.unasked if name in near])

    def greatest(self):
        """The villages not asked that are in some thin filling, rising."""
        turned = {(other, name): True for name, other in self.taken}
        near = reached(self.lacking, self.beside, turned)
        return tuple([name for name in self.unasked if name not in near])

    def drawn_in(self, name):
        """The villages that each thin filling with this one has as well, itself and villages asked among them."""
        return tuple(reached((name,), self.beside, self.taken))

    def fate_of(self, name):
        """What becomes of a village in the thin fillings."""
        if name not in self.unasked:
            return HAS if name in self.having else NOT
        if name in self.least():
            return SURELY
        return MAY if name in self.greatest() else NOT


def laid_ways(wordmap, word):
    """The ways on a map, for a word."""
    having = wordmap.have(word)
    lacking = tuple([name for name in wordmap.asked() if name not in having])
    return LaidWays(wordmap.land, having, lacking)


def thin(wordmap, word):
    """(HOW, WAYS, LEAST, GREATEST): the least length, as many ways, and the least and the greatest thin filling."""
    check_map(wordmap)
    laid = laid_ways(wordmap, word)
    ways = laid.all_ways()
    return len(ways), ways, laid.least(), laid.greatest()


def fate(wordmap, word, village):
    """What becomes of a village: it `has` a word, `surely` has it or `may` have it in the thin fillings, or `not`."""
    check_map(wordmap)
    check_word(word)
    wordmap.land.check_name(village)
    return laid_ways(wordmap, word).fate_of(village)


def possible(wordmap, village):
    """The words of a map that a village has or may have, rising."""
    check_map(wordmap)
    wordmap.land.check_name(village)
    return tuple([word for word in wordmap.all_words() if laid_ways(wordmap, word).fate_of(village) != NOT])
