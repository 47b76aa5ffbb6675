"""Lands read from their texts."""

from wordlines.errors import NoText
from wordlines.lands import LAKE, MOST_COLUMNS, MOST_ROWS, Land
from wordlines.words import is_word


def text_rows(text):
    """The rows of a text, or a refusal of what is no text."""
    if not isinstance(text, str):
        raise NoText(0)
    return text.split("\n")


def read_parts(row):
    """The parts of a Land's row, None for a lake; None alone where the row isn't so."""
    parts = row.split(" ")
    if len(parts) > MOST_COLUMNS or not all([part == LAKE or is_word(part) for part in parts]):
        return None
    return tuple([None if part == LAKE else part for part in parts])


def fits_behind(parts, ahead):
    """Whether a row of parts may stand behind the rows ahead of it in one Land."""
    together = ahead + [parts]
    if len(together) > MOST_ROWS or len(parts) != len(together[0]):
        return False
    names = [part for row in together for part in row if part is not None]
    return len(set(names)) == len(names)


def land_of_rows(rows):
    """The Land of the rows of a text."""
    read = []
    for at, row in enumerate(rows):
        parts = read_parts(row)
        if parts is None or not fits_behind(parts, read):
            raise NoText(at)
        read.append(parts)
    if all([part is None for parts in read for part in parts]):
        raise NoText(len(rows))
    return Land(tuple(read))


def read_land(text):
    """The Land that is written as this text."""
    return land_of_rows(text_rows(text))
