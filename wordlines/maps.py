"""Maps: which words the villages of a Land have for a thing."""

from wordlines.errors import NoAge, NoMap
from wordlines.gatherings import OLDEST, check_age, check_gathering
from wordlines.lands import LAKE
from wordlines.words import check_word, checked_changes, meaning

NOT_ASKED = "?"


def summed_up(tellings, changes):
    """The rising (WORD, YOUNGEST, OLDEST, MANY) of the meanings in these tellings."""
    ages = {}
    for telling in tellings:
        word = meaning(telling[2], changes)
        if word not in ages:
            ages[word] = []
        ages[word].append(telling[4])
    return tuple([(word, min(ages[word]), max(ages[word]), len(ages[word])) for word in sorted(list(ages))])


def by_village(names, tellings, changes):
    """For each village the tellings there, summed up."""
    return {name: summed_up([telling for telling in tellings if telling[0] == name], changes) for name in names}


class WordMap:
    """What the villages of a Land call a thing, as a Gathering had it when the map was made."""

    def __init__(self, gathering, thing, changes=None, least=0, most=OLDEST):
        check_gathering(gathering)
        check_word(thing)
        known = checked_changes(changes)
        check_age(least)
        check_age(most)
        if most < least:
            raise NoAge(most)
        self.land = gathering.land
        self.thing = thing
        self.changes = known
        told = [telling for telling in gathering.tellings() if telling[1] == thing and least <= telling[4] <= most]
        names = self.land.names()
        self.sure_words = by_village(names, [telling for telling in told if telling[6]], known)
        self.doubtful_words = by_village(names, [telling for telling in told if not telling[6]], known)
        self.said = {name: tuple([row[0] for row in self.sure_words[name]]) for name in names}

    def words(self, village):
        """The rising (WORD, YOUNGEST, OLDEST, MANY) of a village's sure tellings."""
        self.land.check_name(village)
        return self.sure_words[village]

    def doubtful(self, village):
        """The rising (WORD, YOUNGEST, OLDEST, MANY) of a village's doubtful tellings."""
        self.land.check_name(village)
        return self.doubtful_words[village]

    def have(self, word):
        """The villages that have a word, rising."""
        meant = meaning(word, self.changes)
        return tuple([name for name in self.land.names() if meant in self.said[name]])

    def asked(self):
        """The villages that were asked, rising."""
        return tuple([name for name in self.land.names() if len(self.said[name]) > 0])

    def all_words(self):
        """All words that some village has, rising."""
        return tuple(sorted({word for name in self.said for word in self.said[name]}))

    def show_part(self, part):
        """What stands in the map's text for a part of the Land's rows."""
        if part is None:
            return LAKE
        return "+".join(self.said[part]) if self.said[part] else NOT_ASKED

    def __eq__(self, other):
        return isinstance(other, WordMap) and self.land == other.land and self.said == other.said

    def __len__(self):
        return len(self.asked())

    def __str__(self):
        return "\n".join([" ".join([self.show_part(part) for part in row]) for row in self.land.rows])

    def __repr__(self):
        return f"WordMap({self.thing})"


def check_map(thing, place=0):
    """Refuse what is no map; place is the number of the argument."""
    if not isinstance(thing, WordMap):
        raise NoMap(place)


def differences(one, other):
    """The villages that don't have the same words on two maps, rising."""
    check_map(one, 0)
    check_map(other, 1)
    if one.land != other.land:
        raise NoMap(None)
    return tuple([name for name in one.land.names() if one.said[name] != other.said[name]])
