import inspect
import random
import unittest

from tests.helper import KINDS, OWN, drawn_map, refused, some_rows
from wordlines.errors import NoMap, NoRings, NoWord
from wordlines.gatherings import Gathering
from wordlines.lands import Land
from wordlines.maps import WordMap
from wordlines.rings import area, places_in, rings

CHANGES = (("u", "o", "last"), ("k", "g", "first"))
SQUARE = ((0, 0), (1, 0), (1, 1), (0, 1))
HOLE = ((1, 1), (1, 2), (2, 2), (2, 1))
ABOUT_NINE = ((0, 0), (1, 0), (2, 0), (3, 0), (3, 1), (3, 2), (3, 3), (2, 3), (1, 3), (0, 3), (0, 2), (0, 1))
NO_MAPS = KINDS + OWN[:2] + (None, True, False, 0, 1, (), "cow")


def steps(ring):
    return [(corner, ring[(at + 1) % len(ring)]) for at, corner in enumerate(ring)]


def places_with(wordmap, word):
    return {wordmap.land.spot(name) for name in wordmap.have(word)}


def left_and_right(step):
    """The places on the left and the right hand of a step."""
    (row, column), (to_row, to_column) = step
    if row == to_row:
        north, south = (row - 1, min(column, to_column)), (row, min(column, to_column))
        return (north, south) if to_column > column else (south, north)
    west, east = (min(row, to_row), column - 1), (min(row, to_row), column)
    return (east, west) if to_row > row else (west, east)


def edges_of(places):
    """All steps with one of the places on the left hand and none on the right, found by going through all steps."""
    found = set()
    for row in range(7):
        for column in range(7):
            for other in ((row + 1, column), (row - 1, column), (row, column + 1), (row, column - 1)):
                left, right = left_and_right(((row, column), other))
                if max(other) <= 6 and min(other) >= 0 and left in places and right not in places:
                    found.add(((row, column), other))
    return found


def parts_of(places, corners_join):
    """The parts of places that hang together by sides, or by corners as well."""
    left, parts = set(places), []
    while left:
        part = [left.pop()]
        for row, column in part:
            for down in (-1, 0, 1):
                for along in (-1, 0, 1):
                    near = (row + down, column + along)
                    if near in left and (corners_join or 0 in (down, along)):
                        left.remove(near)
                        part.append(near)
        parts.append(part)
    return parts


class TestRings(unittest.TestCase):
    def test_of_one_place(self):
        self.assertEqual(rings(drawn_map("ku"), "ku"), (SQUARE,))
        self.assertEqual(rings(drawn_map("mu ku"), "ku"), (((0, 1), (1, 1), (1, 2), (0, 2)),))
        self.assertEqual(rings(drawn_map("mu", "ku"), "ku"), (((1, 0), (2, 0), (2, 1), (1, 1)),))

    def test_of_no_place(self):
        self.assertEqual(rings(drawn_map("ku"), "mu"), ())
        self.assertEqual(rings(drawn_map("? ?"), "mu"), ())

    def test_of_an_area(self):
        ring = ((0, 0), (1, 0), (2, 0), (2, 1), (1, 1), (1, 2), (0, 2), (0, 1))
        self.assertEqual(rings(drawn_map("ku ku", "ku mu"), "ku"), (ring,))
        self.assertEqual(area(ring), 3)

    def test_with_a_hole(self):
        for middle in ("mu", "-", "?"):
            told = rings(drawn_map("ku ku ku", f"ku {middle} ku", "ku ku ku"), "ku")
            self.assertEqual(told, (ABOUT_NINE, HOLE))
            self.assertEqual([area(ring) for ring in told], [9, -1])
        told = rings(drawn_map("ku ku ku", "ku mu ku", "ku ku ku"), "mu")
        self.assertEqual(told, (((1, 1), (2, 1), (2, 2), (1, 2)),))

    def test_areas_that_meet_at_a_corner_are_apart(self):
        told = rings(drawn_map("ku mu", "mu ku"), "ku")
        self.assertEqual(told, (SQUARE, ((1, 1), (2, 1), (2, 2), (1, 2))))
        told = rings(drawn_map("mu ku", "ku mu"), "ku")
        self.assertEqual(told, (((0, 1), (1, 1), (1, 2), (0, 2)), ((1, 0), (2, 0), (2, 1), (1, 1))))

    def test_holes_that_meet_at_a_corner_are_one(self):
        wordmap = drawn_map("ku ku ku ku", "ku mu ku ku", "ku ku mu ku", "ku ku ku ku")
        hole = ((1, 1), (1, 2), (2, 2), (2, 3), (3, 3), (3, 2), (2, 2), (2, 1))
        self.assertEqual(rings(wordmap, "ku")[1:], (hole,))
        self.assertEqual(area(hole), -2)

    def test_an_area_that_meets_itself_at_a_corner(self):
        wordmap = drawn_map("ku ku ku", "ku mu ku", "ku ku -")
        ring = ((0, 0), (1, 0), (2, 0), (3, 0), (3, 1), (3, 2), (2, 2), (2, 1), (1, 1), (1, 2), (2, 2), (2, 3), (1, 3),
                (0, 3), (0, 2), (0, 1))
        self.assertEqual(rings(wordmap, "ku"), (ring,))
        self.assertEqual(area(ring), 7)

    def test_about_lakes_and_at_the_outside(self):
        self.assertEqual(
            rings(drawn_map("- ku -", "ku - -"), "ku"),
            (((0, 1), (1, 1), (1, 2), (0, 2)), ((1, 0), (2, 0), (2, 1), (1, 1))))
        whole = rings(drawn_map(*["ku ku ku ku ku ku"] * 6), "ku")
        self.assertEqual(len(whole), 1)
        self.assertEqual((len(whole[0]), whole[0][0], max(whole[0]), area(whole[0])), (24, (0, 0), (6, 6), 36))

    def test_of_a_village_with_several_words(self):
        wordmap = drawn_map("ku+mu mu")
        self.assertEqual(rings(wordmap, "ku"), (SQUARE,))
        self.assertEqual([area(ring) for ring in rings(wordmap, "mu")], [2])

    def test_by_the_meaning(self):
        wordmap = drawn_map("ku go", changes=CHANGES)
        self.assertEqual([area(ring) for ring in rings(wordmap, "ko")], [2])
        self.assertEqual(rings(drawn_map("ku go"), "ko"), ())

    def test_rising_however_the_names_lie(self):
        gathering = Gathering(Land((("zz", "mm"), ("bb", "aa"))))
        gathering.put("zz", "cow", "ku", "ann", 30)
        gathering.put("aa", "cow", "ku", "ann", 30)
        self.assertEqual(rings(WordMap(gathering, "cow"), "ku"), (SQUARE, ((1, 1), (2, 1), (2, 2), (1, 2))))

    def test_many_maps(self):
        chance = random.Random(8)
        for parts in (("ku", "mu"), ("ku", "ku", "-", "?"), ("ku", "ku", "ku", "ku", "mu+xu", "ku+mu")):
            for _ in range(40):
                self.look_at_rings(drawn_map(*some_rows(chance, parts)))

    def look_at_rings(self, wordmap):
        told = rings(wordmap, "ku")
        places = places_with(wordmap, "ku")
        edges = edges_of(places)
        gone = [step for ring in told for step in steps(ring)]
        self.assertEqual(sorted(gone), sorted(edges))
        for ring in told:
            self.assertEqual(ring, min(ring[at:] + ring[:at] for at in range(len(ring))))
            for ahead, behind in zip(steps(ring), steps(ring)[1:] + steps(ring)[:1]):
                if len([edge for edge in edges if edge[0] == ahead[1]]) == 2:
                    # A turn to the left keeps the same place on the left hand.
                    self.assertEqual(left_and_right(ahead)[0], left_and_right(behind)[0])
        self.assertEqual(told, tuple(sorted(told)))
        self.assertEqual(places_in(told), tuple(sorted(places)))
        self.assertEqual(sum(area(ring) for ring in told), len(places))
        areas = parts_of(places, False)
        self.assertEqual(len([ring for ring in told if area(ring) > 0]), len(areas))
        about = [(row, column) for row in range(-1, 7) for column in range(-1, 7)]
        holes = sum(len(parts_of([spot for spot in about if spot not in part], True)) - 1 for part in areas)
        self.assertEqual(len([ring for ring in told if area(ring) < 0]), holes)

    def test_by_place_and_by_name_and_kinds(self):
        wordmap = drawn_map("ku mu")
        self.assertEqual(rings(word="ku", wordmap=wordmap), (SQUARE,))
        told = rings(wordmap, "ku")
        for row in (told, told[0], told[0][0]):
            self.assertIs(type(row), tuple)
        self.assertEqual(list(inspect.signature(rings).parameters), ["wordmap", "word"])

    def test_the_map_stays_as_it_was(self):
        wordmap = drawn_map("ku mu", "? ku+xu")
        rings(wordmap, "ku")
        self.assertEqual(wordmap, drawn_map("ku mu", "? ku+xu"))

    def test_no_map_and_no_word(self):
        for thing in NO_MAPS:
            self.assertEqual(refused(self, NoMap, rings, thing, "ku").place, 0)
            self.assertEqual(refused(self, NoMap, rings, thing, 3).place, 0)
        for thing in KINDS + OWN + (None, True, False, 0, 1, ()):
            self.assertIs(refused(self, NoWord, rings, drawn_map("ku"), thing).word, thing)


class TestPlacesIn(unittest.TestCase):
    def test_of_no_ring(self):
        self.assertEqual(places_in(()), ())

    def test_of_one_ring(self):
        self.assertEqual(places_in((SQUARE,)), ((0, 0),))
        self.assertEqual(places_in((HOLE,)), ((1, 1),))
        self.assertEqual(places_in((ABOUT_NINE,)), tuple((row, column) for row in range(3) for column in range(3)))

    def test_of_several_rings_in_whatever_turn(self):
        ring = ((0, 2), (1, 2), (1, 3), (0, 3))
        self.assertEqual(places_in((ring, SQUARE)), ((0, 0), (0, 2)))
        self.assertEqual(places_in((SQUARE[2:] + SQUARE[:2], ring[::-1])), ((0, 0), (0, 2)))

    def test_with_a_hole(self):
        about = tuple((row, column) for row in range(3) for column in range(3) if (row, column) != (1, 1))
        self.assertEqual(places_in((ABOUT_NINE, HOLE)), about)
        self.assertEqual(places_in((HOLE, ABOUT_NINE)), about)

    def test_rings_that_share_edges(self):
        self.assertEqual(places_in((SQUARE, SQUARE)), ())
        self.assertEqual(places_in((SQUARE, SQUARE, SQUARE)), ((0, 0),))
        self.assertEqual(places_in((SQUARE, SQUARE[::-1])), ())
        beside = ((0, 1), (1, 1), (1, 2), (0, 2))
        self.assertEqual(places_in((SQUARE, beside)), ((0, 0), (0, 1)))

    def test_a_ring_out_and_back_has_no_place_within(self):
        for ring in (((0, 0), (0, 1), (0, 2), (0, 1)), ((0, 3), (1, 3), (2, 3), (1, 3))):
            self.assertEqual(places_in((ring,)), ())
            self.assertEqual(area(ring), 0)

    def test_at_the_last_corner(self):
        self.assertEqual(places_in((((5, 5), (6, 5), (6, 6), (5, 6)),)), ((5, 5),))

    def test_rings_that_were_told_may_be_handed_in(self):
        wordmap = drawn_map("ku mu ku", "ku ku ku")
        told = rings(wordmap, "ku")
        self.assertEqual(places_in(rings=told), ((0, 0), (0, 2), (1, 0), (1, 1), (1, 2)))
        self.assertEqual(list(inspect.signature(places_in).parameters), ["rings"])
        for row in (places_in(told), places_in(told)[0]):
            self.assertIs(type(row), tuple)


class TestArea(unittest.TestCase):
    def test_above_and_below_0(self):
        self.assertEqual(area(SQUARE), 1)
        self.assertEqual(area(ABOUT_NINE), 9)
        self.assertEqual(area(HOLE), -1)
        self.assertEqual(area(ABOUT_NINE[::-1]), -9)

    def test_whatever_the_turn(self):
        for at in range(len(ABOUT_NINE)):
            self.assertEqual(area(ring=ABOUT_NINE[at:] + ABOUT_NINE[:at]), 9)

    def test_its_kind_and_its_argument(self):
        self.assertIs(type(area(SQUARE)), int)
        self.assertEqual(list(inspect.signature(area).parameters), ["ring"])


# What is no ring, by the clause that it breaks.
BROKEN = {
    "no tuple": (None, [], list(SQUARE), 3, "ring", {}, dict(zip(SQUARE, SQUARE))),
    "fewer than four steps": ((), ((0, 0),), ((0, 0), (0, 1)), SQUARE[:3]),
    "a like step": (
        SQUARE + SQUARE, ((0, 0), (0, 1), (0, 0), (0, 1)), ((0, 0), (1, 0), (0, 0), (1, 0)),
        ((0, 0), (0, 1), (0, 2), (0, 1), (0, 2), (0, 1)),
    ),
    "corners of other numbers": (
        ((0, 0), (1, 0), (1, -1), (0, -1)), ((0, 6), (1, 6), (1, 7), (0, 7)), ((5, 0), (6, 0), (7, 0), (6, 0)),
        ((-1, 0), (0, 0), (0, 1), (-1, 1)), ((False, 0), (1, 0), (1, 1), (0, 1)), ((0, 0), (True, 0), (1, 1), (0, 1)),
        ((0, 0), (1, 0), (1, True), (0, 1)), ((0, 0), (1, 0), (1, 1), (0, "1")), ((0, 0), (1, 0), (1, 1), (0, None)),
        ((0, 0), (1, 0), (1, 1), [0, 1]), ((0, 0), (1, 0), (1, 1), (0, 1, 0)), ((0, 0), (1, 0), (1, 1), (0,)),
        ((0, 0), (1, 0), (1, 1), 1), ((0, 0), (1, 0), (1, 1), None), (0, 1, 0, 1), "abcd", ("aa", "ab", "bb", "ba"),
    ),
    "steps that aren't one step": (
        ((0, 0), (2, 0), (2, 1), (0, 1)), ((0, 0), (1, 0), (1, 2), (0, 2)), ((0, 0), (1, 1), (1, 0), (0, 1)),
        ((0, 0), (1, 0), (1, 0), (1, 1), (0, 1)), ((0, 0), (0, 0), (0, 0), (0, 0)),
    ),
    "a first that isn't one step from the last": (
        ((0, 0), (1, 0), (2, 0), (3, 0)), ABOUT_NINE[:-1], SQUARE + ((0, 0),), ((0, 0), (1, 0), (1, 1), (2, 1)),
    ),
}


class TestNoRings(unittest.TestCase):
    def test_each_clause(self):
        for clause, things in BROKEN.items():
            for thing in things:
                with self.subTest(clause, thing=thing):
                    self.assertEqual(refused(self, NoRings, area, thing).place, 0)
                    self.assertEqual(refused(self, NoRings, places_in, (thing,)).place, 0)
                    self.assertEqual(refused(self, NoRings, places_in, (SQUARE, HOLE, thing, SQUARE)).place, 2)

    def test_things_of_any_kind(self):
        for thing in KINDS + OWN + (None, True, 0, ()):
            self.assertEqual(refused(self, NoRings, area, thing).place, 0)
            self.assertEqual(refused(self, NoRings, places_in, (SQUARE, thing)).place, 1)
            self.assertEqual(refused(self, NoRings, places_in, (thing, thing)).place, 0)
            corner = SQUARE[:3] + (thing,)
            self.assertEqual(refused(self, NoRings, places_in, (corner,)).place, 0)
            number = SQUARE[:3] + ((thing, 1),)
            if thing != 0:
                self.assertEqual(refused(self, NoRings, places_in, (number,)).place, 0)

    def test_what_is_no_tuple(self):
        for thing in KINDS + OWN + (None, True, 0, [SQUARE], {SQUARE}, {SQUARE: SQUARE}, "rings"):
            if not isinstance(thing, tuple):
                self.assertIs(refused(self, NoRings, places_in, thing).place, None)

    def test_the_first_of_several(self):
        self.assertEqual(refused(self, NoRings, places_in, (SQUARE, SQUARE[:3], None)).place, 1)
        # A ring by itself is a tuple of things that are no rings.
        self.assertEqual(refused(self, NoRings, places_in, SQUARE).place, 0)
        self.assertEqual(refused(self, NoRings, area, (SQUARE,)).place, 0)


if __name__ == "__main__":
    unittest.main()
