"""Gatherings written as texts and read from them."""

from wordlines.errors import JoinError, LandError, NoText, WordError
from wordlines.gatherings import DOT, DOUBT, Gathering, check_gathering
from wordlines.landtexts import land_of_rows, text_rows

FIGURES = "0123456789"
MOST_FIGURES = 9


def show_gathering(gathering):
    """The text of a Gathering."""
    check_gathering(gathering)
    return str(gathering)


def is_number(text):
    """Whether a text is a number in figures without noughts ahead."""
    if not 1 <= len(text) <= MOST_FIGURES or not all([sign in FIGURES for sign in text]):
        return False
    return text == "0" or text[0] != "0"


def put_row(gathering, row, at):
    """Put the telling of a row into a Gathering; at is the row's number in the text."""
    words = row.split(" ")
    sure = words[-1] != DOUBT
    told = words if sure else words[:-1]
    if len(told) != 6 or not is_number(told[4]):
        raise NoText(at)
    village, thing, word, teller, age, gatherer = told
    years = int(age)
    try:
        gathering.put(village, thing, word, teller, years, gatherer, sure)
    except (WordError, LandError, JoinError):
        raise NoText(at) from None


def read_gathering(text):
    """The Gathering that is written as this text, with no deed to take back."""
    rows = text_rows(text)
    if DOT not in rows:
        # A row that isn't so comes ahead of the one that lacks.
        land_of_rows(rows)
        raise NoText(len(rows))
    dot = rows.index(DOT)
    gathering = Gathering(land_of_rows(rows[:dot]))
    for at in range(dot + 1, len(rows)):
        put_row(gathering, rows[at], at)
    gathering.settle()
    return gathering
