import random
import unittest

from tests.helper import KINDS, OWN, SMALL, AlikeToAll, refused
from wordlines.errors import NoLand, NoName
from wordlines.lands import Land

FULL = tuple(tuple(row + column for column in "abcdef") for row in "uvwxyz")


class TestLand(unittest.TestCase):
    def test_one_village(self):
        land = Land((("a",),))
        self.assertEqual(land.rows, (("a",),))
        self.assertEqual(land.names(), ("a",))
        self.assertEqual(land.spot("a"), (0, 0))
        self.assertEqual(land.neighbours("a"), ())
        self.assertEqual(land.borders(), ())
        self.assertEqual(len(land), 1)
        self.assertEqual(str(land), "a")
        self.assertEqual(repr(land), "Land(1)")

    def test_six_rows_and_columns(self):
        land = Land(FULL)
        self.assertEqual(land.rows, FULL)
        self.assertEqual(land.names(), tuple(sorted(name for row in FULL for name in row)))
        self.assertEqual(len(land), 36)
        self.assertEqual(repr(land), "Land(36)")
        self.assertEqual(land.spot("ua"), (0, 0))
        self.assertEqual(land.spot("wf"), (2, 5))
        self.assertEqual(land.spot("zf"), (5, 5))
        self.assertEqual(land.neighbours("ua"), ("ub", "va"))
        self.assertEqual(land.neighbours("wc"), ("vc", "wb", "wd", "xc"))
        self.assertEqual(land.neighbours("zf"), ("yf", "ze"))
        self.assertEqual(len(land.borders()), 60)
        self.assertEqual(str(land).split("\n")[5], "za zb zc zd ze zf")

    def test_lakes(self):
        land = Land((("m", None, "b"), ("c", "a", None)))
        self.assertEqual(land.names(), ("a", "b", "c", "m"))
        self.assertEqual(land.spot("b"), (0, 2))
        self.assertEqual(land.neighbours("m"), ("c",))
        self.assertEqual(land.neighbours("c"), ("a", "m"))
        self.assertEqual(land.neighbours("b"), ())
        self.assertEqual(land.borders(), (("a", "c"), ("c", "m")))
        self.assertEqual(len(land), 4)
        self.assertEqual(str(land), "m - b\nc a -")
        self.assertEqual(repr(land), "Land(4)")

    def test_ends_of_rows_are_not_beside_each_other(self):
        land = Land((("a", "b"), ("c", "d"), ("e", "f")))
        self.assertNotIn("c", land.neighbours("b"))
        self.assertNotIn("e", land.neighbours("a"))
        self.assertEqual(land.borders(), (
            ("a", "b"), ("a", "c"), ("b", "d"), ("c", "d"), ("c", "e"), ("d", "f"), ("e", "f")))

    def test_kinds_of_what_is_told(self):
        land = Land(FULL)
        for told in (land.rows, land.names(), land.spot("ua"), land.neighbours("ua"), land.borders(), land.borders()[0]):
            self.assertIs(type(told), tuple)

    def test_many_lands(self):
        chance = random.Random(3)
        for _ in range(60):
            high, wide = chance.randint(1, 6), chance.randint(1, 6)
            names = chance.sample([one + other for one in "abcdef" for other in "abcdef"], high * wide)
            rows = [[name if chance.random() < 0.7 else None for name in names[at::high]] for at in range(high)]
            rows[chance.randrange(high)][chance.randrange(wide)] = "zz"
            land = Land(tuple(tuple(row) for row in rows))
            spots = {rows[r][c]: (r, c) for r in range(high) for c in range(wide) if rows[r][c] is not None}
            pairs = [(one, other) for one in spots for other in spots if one < other
                     and abs(spots[one][0] - spots[other][0]) + abs(spots[one][1] - spots[other][1]) == 1]
            self.assertEqual(land.borders(), tuple(sorted(pairs)))
            self.assertEqual(land.names(), tuple(sorted(spots)))
            self.assertEqual(len(land), len(spots))
            for name in spots:
                self.assertEqual(land.spot(name), spots[name])
                beside = [pair[pair[0] == name] for pair in pairs if name in pair]
                self.assertEqual(land.neighbours(name), tuple(sorted(beside)))
            shown = "\n".join(" ".join(part or "-" for part in row) for row in rows)
            self.assertEqual(str(land), shown)

    def test_by_name(self):
        land = Land(rows=(("a", "b"),))
        self.assertEqual(land.spot(name="b"), (0, 1))
        self.assertEqual(land.neighbours(name="b"), ("a",))

    def test_likeness(self):
        rows = (("a", None), ("b", "c"))
        self.assertTrue(Land(rows) == Land((("a", None), ("b", "c"))))
        self.assertFalse(Land(rows) != Land(rows))
        self.assertTrue(Land(rows) != Land((("a", "b"), (None, "c"))))
        self.assertFalse(Land((("a", "b"),)) == Land((("a",), ("b",))))
        self.assertFalse(Land((("a",),)) == Land((("a", None),)))

    def test_likeness_to_things_of_other_kinds(self):
        land = Land((("a", "b"),))
        for thing in KINDS + OWN[1:] + (None, True, 2, land.rows, str(land), repr(land)):
            self.assertIs(land == thing, False)
            self.assertIs(land != thing, True)
            if not isinstance(thing, AlikeToAll):
                self.assertIs(thing == land, False)

    def test_rows_that_were_told_make_an_alike_land(self):
        self.assertEqual(Land(SMALL.rows), SMALL)


class TestNoLand(unittest.TestCase):
    def place(self, rows):
        return refused(self, NoLand, Land, rows).place

    def test_what_is_no_tuple_of_tuples(self):
        for thing in KINDS + (None, True, 0, (), *OWN, [("a",)], ["a"], "a", ("a",), (("a",), ["b"]), (["a"],)):
            self.assertIs(self.place(thing), None, repr(thing)[:40])
            if not isinstance(thing, tuple):
                self.assertIs(self.place((("a",), thing)), None, repr(thing)[:40])
                self.assertIs(self.place((thing, ("a",))), None, repr(thing)[:40])

    def test_too_few_and_too_many(self):
        self.assertIs(self.place(()), None)
        self.assertIs(self.place(((),)), None)
        self.assertIs(self.place(((), ())), None)
        self.assertIs(self.place(FULL + (("a", "b", "c", "d", "e", "f"),)), None)
        self.assertIs(self.place((tuple("abcdefg"),)), None)

    def test_rows_of_unlike_length(self):
        self.assertIs(self.place((("a", "b"), ("c",))), None)
        self.assertIs(self.place((("a",), ("c", "d"))), None)
        self.assertIs(self.place((("a", "b"), ("c", "d"), ())), None)

    def test_the_size_is_refused_ahead_of_a_part(self):
        self.assertIs(self.place(((7, "b"), ("c",))), None)
        self.assertIs(self.place((("a", "a", "a", "a", "a", "a", "a"),)), None)

    def test_the_first_part_that_is_neither(self):
        for thing in KINDS + (True, False, 0, (), *OWN):
            self.assertEqual(self.place(((thing,),)), (0, 0))
            self.assertEqual(self.place((("a", None), ("b", thing))), (1, 1))
            self.assertEqual(self.place(((None, None), (thing, thing))), (1, 0))
            self.assertEqual(self.place((("a", thing), (thing, "a"))), (0, 1))

    def test_a_name_that_was_ahead(self):
        self.assertEqual(self.place((("a", "a"),)), (0, 1))
        self.assertEqual(self.place((("a", "b"), ("c", "b"))), (1, 1))
        self.assertEqual(self.place((("a", "b"), ("a", 7))), (1, 0))
        self.assertEqual(self.place((("a", "b"), (7, "a"))), (1, 0))
        self.assertEqual(self.place(FULL[:5] + (("za", "zb", "zc", "zd", "ze", "ua"),)), (5, 5))

    def test_lakes_alone(self):
        self.assertIs(self.place(((None,),)), None)
        self.assertIs(self.place(((None,) * 6,) * 6), None)

    def test_what_is_handed_in_stays_as_it_was(self):
        rows = [["a", "b"], ["c", "c"]]
        self.place(rows)
        self.assertEqual(rows, [["a", "b"], ["c", "c"]])


class TestNoName(unittest.TestCase):
    def test_what_is_none_there(self):
        land = Land((("a", None), ("b", "cc")))
        for thing in KINDS + OWN + (None, True, 0, (), land, "c", "ccc", "d", "self", (0, 0), ("a",), ["a"]):
            for call in (land.spot, land.neighbours):
                self.assertIs(refused(self, NoName, call, thing).name, thing)


if __name__ == "__main__":
    unittest.main()
