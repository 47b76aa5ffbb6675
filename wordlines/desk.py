"""The desk: a Gathering kept, and asked, by rows of words."""

from wordlines.asking import asks_needed
from wordlines.checker import holds
from wordlines.errors import NoRow
from wordlines.gatherings import Gathering
from wordlines.gathertexts import is_number
from wordlines.habits import habit
from wordlines.lines import parted, parted_by
from wordlines.maps import WordMap
from wordlines.near import apart, nearest
from wordlines.papers import paper_thin
from wordlines.rings import area, rings
from wordlines.thin import fate, thin
from wordlines.words import WHERES, checked_changes, is_letter, is_word, row_between

OK = "ok"
NO = "no"
NONE = "none"
HOLDS = "holds"
NOTHING = "-"


def listed(texts):
    """Texts with blanks between, or the word for none."""
    return " ".join(texts) if texts else NONE


def show_borders(borders):
    """Borders, each as NAME-OTHER."""
    return listed([f"{name}-{other}" for name, other in borders])


def put_by(desk, told, sure):
    """Put in a telling, sure or doubtful."""
    village, thing, word, teller, age, gatherer = told
    desk.gathering.put(village, thing, word, teller, int(age), gatherer, sure)
    return OK


def say_put(desk, told):
    """Put in a sure telling."""
    return put_by(desk, told, True)


def say_doubt(desk, told):
    """Put in a doubtful telling."""
    return put_by(desk, told, False)


def say_strike(desk, told):
    """Strike a telling."""
    village, teller, thing, gatherer = told
    desk.gathering.strike(village, teller, thing, gatherer)
    return OK


def say_back(desk, told):
    """Take back the last deed."""
    desk.gathering.back()
    return OK


def say_change(desk, told):
    """Add one more change."""
    desk.changes = checked_changes((*desk.changes, tuple(told)))
    return OK


def say_one(desk, told):
    """The row from a word to another."""
    word, other = told
    row = row_between(word, other, desk.changes)
    return NO if row is None else " > ".join(row)


def say_map(desk, told):
    """The map of a thing, its rows one behind another."""
    return str(desk.map_of(told[0])).replace("\n", " / ")


def say_words(desk, told):
    """The words of a village for a thing."""
    village, thing = told
    words = desk.map_of(thing).words(village)
    return listed([f"{word}:{youngest}:{oldest}:{many}" for word, youngest, oldest, many in words])


def say_parted(desk, told):
    """The borders at which neighbours part."""
    return show_borders(parted(desk.map_of(told[0])))


def say_line(desk, told):
    """The borders at which neighbours part by a word."""
    thing, word = told
    return show_borders(parted_by(desk.map_of(thing), word))


def say_rings(desk, told):
    """The areas of a word's rings."""
    thing, word = told
    return listed([str(area(ring)) for ring in rings(desk.map_of(thing), word)])


def say_thin(desk, told):
    """How long a thin filling is."""
    thing, word = told
    return str(thin(desk.map_of(thing), word)[0])


def say_fate(desk, told):
    """What becomes of a village."""
    thing, word, village = told
    return fate(desk.map_of(thing), word, village)


def say_asks(desk, told):
    """How many villages must be asked."""
    thing, word = told
    return str(asks_needed(desk.map_of(thing), word))


def say_habit(desk, told):
    """Whether a line between two words may be a habit, names with commas between."""
    thing, one, other = told
    parts = habit(desk.gathering, thing, one, other, desk.changes)
    return " ".join([",".join(part) if isinstance(part, tuple) else part for part in parts])


def say_apart(desk, told):
    """How far two villages are apart."""
    village, other = told
    share = apart(desk.gathering, village, other, desk.changes)
    return NOTHING if share is None else f"{share[0]}/{share[1]}"


def say_near(desk, told):
    """The nearest villages to one."""
    return listed(nearest(desk.gathering, told[0], desk.changes))


def say_paper(desk, told):
    """Whether the checker takes the house's paper of what is thin."""
    thing, word = told
    claim, paper = paper_thin(desk.map_of(thing), word)
    return HOLDS if holds(claim, paper) else NO


ANSWERS = {
    "put": say_put, "doubt": say_doubt, "strike": say_strike, "back": say_back, "change": say_change, "one": say_one,
    "map": say_map, "words": say_words, "parted": say_parted, "line": say_line, "rings": say_rings, "thin": say_thin,
    "fate": say_fate, "asks": say_asks, "habit": say_habit, "apart": say_apart, "near": say_near, "paper": say_paper,
}

# What stands behind the first word of each row.
SHAPES = {
    "put": "word word word word number word", "doubt": "word word word word number word",
    "strike": "word word word word", "back": "", "change": "letter letter where", "one": "word word",
    "map": "word", "words": "word word", "parted": "word", "line": "word word", "rings": "word word",
    "thin": "word word", "fate": "word word word", "asks": "word word", "habit": "word word word",
    "apart": "word word", "near": "word", "paper": "word word",
}


def fits(text, kind):
    """Whether a text is what should stand in its place."""
    if kind == "number":
        return is_number(text)
    if kind == "letter":
        return is_letter(text)
    if kind == "where":
        return text in WHERES
    return is_word(text)


def checked_words(row):
    """The words of a row, or a refusal of what is none."""
    if not isinstance(row, str):
        raise NoRow(row)
    words = row.split(" ")
    if words[0] not in SHAPES:
        raise NoRow(row)
    shape = SHAPES[words[0]].split()
    told = words[1:]
    if len(told) != len(shape) or not all([fits(text, kind) for text, kind in zip(told, shape)]):
        raise NoRow(row)
    return words


class Desk:
    """Keeps a Gathering of a Land, and changes, by rows of words."""

    def __init__(self, land):
        self.gathering = Gathering(land)
        self.changes = ()

    def map_of(self, thing):
        """The map of a thing as the Gathering is now."""
        return WordMap(self.gathering, thing, self.changes)

    def say(self, row):
        """Do what a row asks for, and answer it with a text."""
        words = checked_words(row)
        answer = ANSWERS[words[0]]
        return answer(self, words[1:])
