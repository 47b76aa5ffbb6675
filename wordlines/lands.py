"""Lands: villages and lakes, laid out in rows and columns."""

from wordlines.errors import NoLand, NoName
from wordlines.words import is_word

MOST_ROWS = 6
MOST_COLUMNS = 6
LAKE = "-"


def are_rows(thing):
    """Whether a thing of any kind is a tuple of tuples of a Land's size, whatever their parts are."""
    if not isinstance(thing, tuple) or not 1 <= len(thing) <= MOST_ROWS:
        return False
    for row in thing:
        if not isinstance(row, tuple) or not 1 <= len(row) <= MOST_COLUMNS or len(row) != len(thing[0]):
            return False
    return True


def wrong_spot(rows):
    """The place (ROW, COLUMN) of the first part that is no lake and no name, or a name told ahead; None without one."""
    names = []
    for at, row in enumerate(rows):
        for column, part in enumerate(row):
            if part is None:
                continue
            if not is_word(part) or part in names:
                return (at, column)
            names.append(part)
    return None


def spots_in(rows):
    """The place (ROW, COLUMN) of each name in the rows."""
    return {part: (at, column) for at, row in enumerate(rows) for column, part in enumerate(row) if part is not None}


def are_land_rows(thing):
    """Whether a thing of any kind is the rows of a Land."""
    return are_rows(thing) and wrong_spot(thing) is None and len(spots_in(thing)) > 0


def checked_spots(rows):
    """The place (ROW, COLUMN) of each name in the rows, or a refusal."""
    if not are_rows(rows):
        raise NoLand(None)
    # Parts are looked at first: a thing of another kind may not be fit for a key.
    wrong = wrong_spot(rows)
    if wrong is not None:
        raise NoLand(wrong)
    spots = spots_in(rows)
    if not spots:
        raise NoLand(None)
    return spots


class Land:
    """Villages and lakes in at most six rows of at most six columns."""

    def __init__(self, rows):
        self.spots = checked_spots(rows)
        self.rows = rows

    def check_name(self, name):
        """Refuse what is no village of this Land."""
        # Only words are looked up: a thing of another kind may not be fit for a key.
        if not is_word(name) or name not in self.spots:
            raise NoName(name)

    def names(self):
        """All villages, rising."""
        return tuple(sorted(list(self.spots)))

    def spot(self, name):
        """The place (ROW, COLUMN) of a village."""
        self.check_name(name)
        return self.spots[name]

    def neighbours(self, name):
        """The villages beside this one in its row and its column, rising."""
        row, column = self.spot(name)
        beside = ((row - 1, column), (row + 1, column), (row, column - 1), (row, column + 1))
        return tuple([other for other in self.names() if self.spots[other] in beside])

    def borders(self):
        """All (NAME, OTHER) of neighbours, NAME the lesser, rising."""
        return tuple([(name, other) for name in self.names() for other in self.neighbours(name) if name < other])

    def __eq__(self, other):
        return isinstance(other, Land) and self.rows == other.rows

    def __len__(self):
        return len(self.spots)

    def __str__(self):
        return "\n".join([" ".join([LAKE if part is None else part for part in row]) for row in self.rows])

    def __repr__(self):
        return f"Land({len(self.spots)})"
