"""The refusals of the whole program, each under one of three bases."""


class WordError(ValueError):
    """What was handed in is not written as it should be."""


class LandError(LookupError):
    """What was handed in, or asked for, is not there."""


class JoinError(ArithmeticError):
    """What was handed in is right by itself, but does not go with the rest."""


class NoWord(WordError):
    """Not a text of one to eight small letters."""

    def __init__(self, word):
        self.word = word


class NoChanges(WordError):
    """Not a tuple of at most twelve changes."""

    def __init__(self, place):
        self.place = place


class NoText(WordError):
    """Not the text of a Land or of a Gathering."""

    def __init__(self, row):
        self.row = row


class NoAge(WordError):
    """Not a whole number from 0 to 120, or a greatest age below the least."""

    def __init__(self, age):
        self.age = age


class NoSure(WordError):
    """Not a truth."""

    def __init__(self, sure):
        self.sure = sure


class NoRings(WordError):
    """Not a tuple of rings."""

    def __init__(self, place):
        self.place = place


class NoThings(WordError):
    """Not a tuple of at most twenty unlike words."""


class NoCount(WordError):
    """Not a whole number from 1 to 20."""

    def __init__(self, many):
        self.many = many


class NoRow(WordError):
    """Not a row that a desk answers."""

    def __init__(self, row):
        self.row = row


class NoLand(LandError):
    """Not a Land, or not the rows of one."""

    def __init__(self, place):
        self.place = place


class NoName(LandError):
    """Not the name of a village of the Land."""

    def __init__(self, name):
        self.name = name


class NoGathering(LandError):
    """Not a Gathering."""


class NoMap(LandError):
    """Not a map, or two of unlike Lands."""

    def __init__(self, place):
        self.place = place


class NoTelling(LandError):
    """No telling of this key."""

    def __init__(self, key):
        self.key = key


class NoBack(LandError):
    """No deed is left to take back."""


class Told(JoinError):
    """A telling of this key stands already."""

    def __init__(self, key):
        self.key = key


class Full(JoinError):
    """As many tellings as there may be."""

    def __init__(self, many):
        self.many = many


class Clash(JoinError):
    """Two Gatherings tell unlike things by these keys."""

    def __init__(self, both):
        self.both = both


class TooMany(JoinError):
    """More villages may have the word than a plan is made for."""

    def __init__(self, many):
        self.many = many
