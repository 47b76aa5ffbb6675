"""Gatherings: what tellers in the villages of a Land call things."""

from wordlines.errors import Full, NoAge, NoBack, NoGathering, NoLand, NoSure, NoTelling, Told
from wordlines.lands import Land
from wordlines.words import check_word, is_number_from, is_word

MOST_TELLINGS = 200
OLDEST = 120
DOT = "."
DOUBT = "?"


def check_age(age):
    """Refuse what is no whole number from 0 to 120."""
    if not is_number_from(age, 0, OLDEST):
        raise NoAge(age)


def check_sure(sure):
    """Refuse what is no truth."""
    if not isinstance(sure, bool):
        raise NoSure(sure)


def key_of(telling):
    """The KEY (VILLAGE, TELLER, THING, GATHERER) of a telling."""
    return (telling[0], telling[3], telling[1], telling[5])


def telling_row(telling):
    """A telling as a row of a Gathering's text."""
    village, thing, word, teller, age, gatherer, sure = telling
    parts = [village, thing, word, teller, str(age), gatherer]
    return " ".join(parts if sure else parts + [DOUBT])


class Gathering:
    """The tellings of a Land, with the deeds that can be taken back."""

    def __init__(self, land):
        if not isinstance(land, Land):
            raise NoLand(None)
        self.land = land
        self.told = []
        # For each deed what it struck and where that stood; None for a deed that put in the last telling.
        self.deeds = []

    def place_of(self, key):
        """Where the telling of a KEY stands, None where there is none."""
        for place, telling in enumerate(self.told):
            if key_of(telling) == key:
                return place
        return None

    def put(self, village, thing, word, teller, age, gatherer="self", sure=True):
        """Put in a telling."""
        self.land.check_name(village)
        check_word(thing)
        check_word(word)
        check_word(teller)
        check_age(age)
        check_word(gatherer)
        check_sure(sure)
        key = (village, teller, thing, gatherer)
        if self.place_of(key) is not None:
            raise Told(key)
        if len(self.told) >= MOST_TELLINGS:
            raise Full(MOST_TELLINGS)
        self.told.append((village, thing, word, teller, age, gatherer, sure))
        self.deeds.append(None)

    def strike(self, village, teller, thing, gatherer="self"):
        """Strike the telling of a KEY."""
        key = (village, teller, thing, gatherer)
        # Only words are compared: a thing of another kind may say that it is alike to one.
        place = self.place_of(key) if all([is_word(part) for part in key]) else None
        if place is None:
            raise NoTelling(key)
        self.deeds.append((place, self.told.pop(place)))

    def back(self):
        """Take back the last deed that isn't taken back."""
        if not self.deeds:
            raise NoBack("no deed is left to take back")
        struck = self.deeds.pop()
        if struck is None:
            self.told.pop()
        else:
            place, telling = struck
            self.told.insert(place, telling)

    def settle(self):
        """Let all deeds stand: none of them can be taken back from here on."""
        self.deeds = []

    def tellings(self, keying=None):
        """All tellings as put in, or those with lesser keyings ahead."""
        if keying is None:
            return list(self.told)
        return sorted(self.told, key=lambda telling: keying(telling))

    def those(self, ask):
        """The tellings for which the ask tells True, as put in."""
        return [telling for telling in self.told if ask(telling) is True]

    def things(self):
        """The things that words were told for, rising."""
        return tuple(sorted({telling[1] for telling in self.told}))

    def gatherers(self):
        """Those who gathered the tellings, rising."""
        return tuple(sorted({telling[5] for telling in self.told}))

    def __eq__(self, other):
        return isinstance(other, Gathering) and self.land == other.land and sorted(self.told) == sorted(other.told)

    def __len__(self):
        return len(self.told)

    def __str__(self):
        return "\n".join([str(self.land), DOT] + [telling_row(telling) for telling in self.told])

    def __repr__(self):
        return f"Gathering({len(self.told)})"


def check_gathering(thing):
    """Refuse what is no Gathering."""
    if not isinstance(thing, Gathering):
        raise NoGathering("this is no Gathering")
