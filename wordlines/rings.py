"""Rings: the closed lines about the villages that have a word."""

from wordlines.errors import NoRings
from wordlines.lands import MOST_COLUMNS, MOST_ROWS
from wordlines.maps import check_map
from wordlines.words import is_number_from

LAST_CORNER = 6
FEWEST_STEPS = 4


def edges_about(place):
    """For each side of a place the place beyond it, and its edge as a step with the place on the left hand."""
    row, column = place
    northwest, southwest = (row, column), (row + 1, column)
    northeast, southeast = (row, column + 1), (row + 1, column + 1)
    return (
        ((row, column - 1), (northwest, southwest)),
        ((row + 1, column), (southwest, southeast)),
        ((row, column + 1), (southeast, northeast)),
        ((row - 1, column), (northeast, northwest)),
    )


def outer_edges(places):
    """The edges with one of the places on the left hand and none of them on the right."""
    return [edge for place in places for beyond, edge in edges_about(place) if beyond not in places]


def next_edge(edge, edges):
    """The edge that leads on behind an edge, to the left where two do."""
    (row, column), (to_row, to_column) = edge
    left = (edge[1], (to_row - (to_column - column), to_column + (to_row - row)))
    if left in edges:
        return left
    return [way for way in edges if way[0] == edge[1]][0]


def ring_from(edge, edges):
    """The edges of the ring that an edge is on, in turn."""
    ring = [edge]
    way = next_edge(edge, edges)
    while way != edge:
        ring.append(way)
        way = next_edge(way, edges)
    return ring


def least_turn(ring):
    """Of all turns of a ring the least."""
    return min([ring[at:] + ring[:at] for at in range(len(ring))])


def rings(wordmap, word):
    """The rings about the villages that have a word, rising."""
    check_map(wordmap)
    edges = outer_edges([wordmap.land.spot(name) for name in wordmap.have(word)])
    gone = []
    found = []
    for edge in edges:
        if edge not in gone:
            ring = ring_from(edge, edges)
            gone.extend(ring)
            found.append(least_turn(tuple([corner for corner, goal in ring])))
    return tuple(sorted(found))


def is_corner(thing):
    """Whether a thing of any kind is a tuple of two whole numbers from 0 to 6."""
    if not isinstance(thing, tuple) or len(thing) != 2:
        return False
    return all([is_number_from(part, 0, LAST_CORNER) for part in thing])


def steps_of(ring):
    """The steps of a ring, each a tuple of two corners, the last one back to the first corner."""
    return [(corner, ring[(at + 1) % len(ring)]) for at, corner in enumerate(ring)]


def is_ring(thing):
    """Whether a thing of any kind is a tuple of corners, each one step from the one ahead, no step gone twice."""
    if not isinstance(thing, tuple) or len(thing) < FEWEST_STEPS or not all([is_corner(part) for part in thing]):
        return False
    steps = steps_of(thing)
    if not all([abs(row - to_row) + abs(column - to_column) == 1 for (row, column), (to_row, to_column) in steps]):
        return False
    return len(set(steps)) == len(steps)


def check_rings(things):
    """Refuse what is no tuple of rings."""
    if not isinstance(things, tuple):
        raise NoRings(None)
    for place, thing in enumerate(things):
        if not is_ring(thing):
            raise NoRings(place)


def places_in(rings):
    """The places (ROW, COLUMN) within rings, rising."""
    check_rings(rings)
    steps = [step for ring in rings for step in steps_of(ring)]
    crossed = [(min(row, to_row), column) for (row, column), (to_row, to_column) in steps if row != to_row]
    places = []
    for row in range(MOST_ROWS):
        inside = False
        for column in range(MOST_COLUMNS):
            # Rings that share an edge step along it more than once, and two steps cancel each other.
            if crossed.count((row, column)) % 2 == 1:
                inside = not inside
            if inside:
                places.append((row, column))
    return tuple(places)


def area(ring):
    """How many places lie within a ring, below 0 where it runs about a hole."""
    check_rings((ring,))
    steps = steps_of(ring)
    return sum([row * to_column - to_row * column for (row, column), (to_row, to_column) in steps]) // 2
