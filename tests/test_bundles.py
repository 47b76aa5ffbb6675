import inspect
import random
import unittest

from tests.helper import KINDS, OWN, gathering_of, refused, some_rows
from wordlines.bundles import bundles, counts
from wordlines.errors import NoChanges, NoCount, NoGathering, NoThings
from wordlines.gatherings import Gathering
from wordlines.lands import Land
from wordlines.lines import parted
from wordlines.maps import WordMap

CHANGES = (("u", "o", "last"), ("k", "g", "first"))
TWENTY = tuple("t" + letter for letter in "abcdefghijklmnopqrst")


def put_rows(gathering, thing, *rows):
    """Put in what the villages, in the rows of the land, call one more thing; `?` for none."""
    for names, row in zip(gathering.land.rows, rows):
        for name, part in zip(names, row.split()):
            if part not in "-?":
                gathering.put(name, thing, part, "ann", 30)


def corners(land, border):
    """The corners that both places of a border have."""
    both = []
    for row, column in (land.spot(border[0]), land.spot(border[1])):
        both.append({(row + down, column + along) for down in (0, 1) for along in (0, 1)})
    return both[0] & both[1]


def bundles_by_merging(gathering, things, many, changes):
    """The bundles, found by joining two of them as long as two meet."""
    land = gathering.land
    parts = [{row[:2]} for row in counts(gathering, things, changes) if row[2] >= many]
    merged = True
    while merged:
        merged = False
        for one in parts:
            for other in parts:
                if one is not other and any(corners(land, a) & corners(land, b) for a in one for b in other):
                    merged = True
                    break
            if merged:
                break
        if merged:
            parts = [part for part in parts if part is not one and part is not other] + [one | other]
    return tuple(sorted(tuple(sorted(part)) for part in parts))


class TestCounts(unittest.TestCase):
    def test_neighbours_that_part_for_some_things(self):
        gathering = gathering_of("ku mu", "ku ?")
        put_rows(gathering, "pig", "su su", "xu yu")
        put_rows(gathering, "dog", "wu wa", "? wa")
        self.assertEqual(counts(gathering, ("cow", "pig", "dog")), (
            ("aa", "ab", 2, 3), ("aa", "ba", 1, 2), ("ab", "bb", 1, 2), ("ba", "bb", 1, 1)))
        self.assertEqual(counts(gathering, ("dog",)), (
            ("aa", "ab", 1, 1), ("aa", "ba", 0, 0), ("ab", "bb", 0, 1), ("ba", "bb", 0, 0)))
        self.assertEqual(counts(gathering, ("dog", "cow")), counts(gathering, ("cow", "dog")))

    def test_with_none_of_things(self):
        gathering = gathering_of("ku mu", "- ku")
        self.assertEqual(counts(gathering, ()), (("aa", "ab", 0, 0), ("ab", "bb", 0, 0)))
        self.assertEqual(bundles(gathering, ()), ())
        self.assertEqual(bundles(gathering, (), 1), ())

    def test_with_a_thing_that_was_not_asked_for(self):
        gathering = gathering_of("ku mu")
        self.assertEqual(counts(gathering, ("cow", "cat")), (("aa", "ab", 1, 1),))

    def test_with_twenty_things(self):
        gathering = gathering_of("ku mu ku", things=TWENTY)
        self.assertEqual(counts(gathering, TWENTY), (("aa", "ab", 20, 20), ("ab", "ac", 20, 20)))
        self.assertEqual(bundles(gathering, TWENTY, 20), ((("aa", "ab"),), (("ab", "ac"),)))
        self.assertEqual(bundles(gathering, TWENTY[:19], 20), ())
        self.assertEqual(counts(gathering, TWENTY[:19])[0], ("aa", "ab", 19, 19))

    def test_with_changes(self):
        gathering = gathering_of("ku go mu")
        self.assertEqual(counts(gathering, ("cow",)), (("aa", "ab", 1, 1), ("ab", "ac", 1, 1)))
        self.assertEqual(counts(gathering, ("cow",), CHANGES), (("aa", "ab", 0, 1), ("ab", "ac", 1, 1)))
        self.assertEqual(bundles(gathering, ("cow",), 1, CHANGES), ((("ab", "ac"),),))

    def test_doubtful_tellings_do_not_count(self):
        gathering = gathering_of("ku ?")
        gathering.put("ab", "cow", "mu", "ann", 30, "self", False)
        self.assertEqual(counts(gathering, ("cow",)), (("aa", "ab", 0, 0),))

    def test_a_land_without_borders(self):
        self.assertEqual(counts(gathering_of("ku - mu"), ("cow",)), ())
        self.assertEqual(bundles(gathering_of("ku - mu"), ("cow",), 1), ())


class TestBundles(unittest.TestCase):
    def test_edges_that_meet_at_a_corner_are_in_one(self):
        gathering = gathering_of("ku mu", "ku ku")
        self.assertEqual(bundles(gathering, ("cow",), 1), ((("aa", "ab"), ("ab", "bb")),))

    def test_edges_that_do_not_meet_are_apart(self):
        gathering = gathering_of("ku mu ku")
        self.assertEqual(bundles(gathering, ("cow",), 1), ((("aa", "ab"),), (("ab", "ac"),)))

    def test_edges_in_one_row_beside_each_other(self):
        gathering = gathering_of("ku ku", "mu mu")
        self.assertEqual(bundles(gathering, ("cow",), 1), ((("aa", "ba"), ("ab", "bb")),))

    def test_edges_that_meet_across_a_corner(self):
        gathering = gathering_of("ku mu -", "- xu yu")
        put_rows(gathering, "pig", "ku mu -", "- mu yu")
        self.assertEqual(bundles(gathering, ("cow", "pig"), 2), ((("aa", "ab"),), (("bb", "bc"),)))
        self.assertEqual(bundles(gathering, ("cow", "pig"), 1), ((("aa", "ab"), ("ab", "bb"), ("bb", "bc")),))
        # These two edges share just the corner in the middle, and no village.
        gathering = gathering_of("ku mu", "ku ku")
        put_rows(gathering, "pig", "ku ku", "ku mu")
        self.assertEqual(bundles(gathering, ("cow", "pig"), 1), ((("aa", "ab"), ("ab", "bb"), ("ba", "bb")),))
        gathering = gathering_of("ku mu", "ku mu")
        self.assertEqual(bundles(gathering, ("cow",), 1), ((("aa", "ab"), ("ba", "bb")),))

    def test_a_chain(self):
        gathering = gathering_of("ku mu mu mu", "ku ku mu mu", "ku ku ku mu")
        chain = (("aa", "ab"), ("ab", "bb"), ("bb", "bc"), ("bc", "cc"), ("cc", "cd"))
        self.assertEqual(bundles(gathering, ("cow",), 1), (chain,))

    def test_by_1_and_by_2(self):
        gathering = gathering_of("ku mu ku ku", things=("cow", "pig"))
        put_rows(gathering, "dog", "a a a b")
        things = ("cow", "pig", "dog")
        self.assertEqual(bundles(gathering, things, 1), ((("aa", "ab"),), (("ab", "ac"),), (("ac", "ad"),)))
        self.assertEqual(bundles(gathering, things, 2), ((("aa", "ab"),), (("ab", "ac"),)))
        self.assertEqual(bundles(gathering, things, 3), ())

    def test_many_left_out_is_2(self):
        gathering = gathering_of("ku mu ku ku", things=("cow", "pig"))
        put_rows(gathering, "dog", "a a a b")
        things = ("cow", "pig", "dog")
        self.assertEqual(bundles(gathering, things), bundles(gathering, things, 2))
        self.assertEqual(bundles(gathering, things, changes=CHANGES), bundles(gathering, things, 2, CHANGES))
        left_out = [parameter.default for parameter in inspect.signature(bundles).parameters.values()]
        self.assertEqual(left_out[2:], [2, None])

    def test_rising_however_the_names_lie(self):
        gathering = Gathering(Land((("zz", "mm", "aa"), ("ff", "bb", "yy"))))
        for name in gathering.land.names():
            gathering.put(name, "cow", "ku" if name in ("zz", "ff", "yy", "aa") else "mu", "ann", 30)
        self.assertEqual(bundles(gathering, ("cow",), 1), ((("aa", "mm"), ("bb", "yy")), (("bb", "ff"), ("mm", "zz"))))


class TestBoth(unittest.TestCase):
    def test_many_gatherings(self):
        chance = random.Random(9)
        for _ in range(30):
            gathering = gathering_of(*some_rows(chance, ("ku", "go", "mu", "?", "-"), 5))
            for thing in ("pig", "dog"):
                for name in gathering.land.names():
                    if chance.random() < 0.8:
                        gathering.put(name, thing, chance.choice(("ku", "go", "mu")), "zoe", 30)
            changes = chance.choice((None, CHANGES))
            things = ("pig", "cow", "dog", "cat")
            maps = [WordMap(gathering, thing, changes) for thing in things]
            expected = []
            for name, other in gathering.land.borders():
                apart = sum((name, other) in parted(wordmap) for wordmap in maps)
                common = sum(name in wordmap.asked() and other in wordmap.asked() for wordmap in maps)
                expected.append((name, other, apart, common))
            self.assertEqual(counts(gathering, things, changes), tuple(expected))
            for many in (1, 2, 3):
                self.assertEqual(
                    bundles(gathering, things, many, changes), bundles_by_merging(gathering, things, many, changes))

    def test_by_place_and_by_name_and_kinds(self):
        gathering = gathering_of("ku mu")
        self.assertEqual(counts(changes=(), things=("cow",), gathering=gathering), (("aa", "ab", 1, 1),))
        told = bundles(changes=None, many=1, things=("cow",), gathering=gathering)
        self.assertEqual(told, ((("aa", "ab"),),))
        for row in (counts(gathering, ("cow",)), counts(gathering, ("cow",))[0], told, told[0], told[0][0]):
            self.assertIs(type(row), tuple)
        self.assertEqual(list(inspect.signature(counts).parameters), ["gathering", "things", "changes"])
        self.assertEqual(list(inspect.signature(bundles).parameters), ["gathering", "things", "many", "changes"])

    def test_the_gathering_stays_as_it_was(self):
        gathering = gathering_of("ku mu", "? go")
        counts(gathering, ("cow",), CHANGES)
        bundles(gathering, ("cow",), 1, CHANGES)
        self.assertEqual(gathering.tellings(), gathering_of("ku mu", "? go").tellings())
        gathering.back()
        self.assertEqual(len(gathering), 2)


class TestRefusals(unittest.TestCase):
    def setUp(self):
        self.gathering = gathering_of("ku mu")

    def test_no_gathering(self):
        for thing in KINDS + (OWN[0], OWN[2], None, True, 0, (), "cow"):
            refused(self, NoGathering, counts, thing, ("cow",))
            refused(self, NoGathering, bundles, thing, ("cow",))

    def test_no_things(self):
        wrong = [thing for thing in KINDS + OWN if thing is not KINDS[KINDS.index(("a",))]]
        wrong += [None, True, "cow", ["cow"], {"cow"}, {"cow": "pig"}, TWENTY + ("cow",), ("cow", "cow"),
                  ("cow", "pig", "cow"), ("cow", "COW"), ("cow", ""), ("", ), (None,), (("cow",),), ("cow", 3)]
        wrong += [("cow", thing) for thing in KINDS + OWN]
        for thing in wrong:
            refused(self, NoThings, counts, self.gathering, thing)
            refused(self, NoThings, bundles, self.gathering, thing)

    def test_no_count(self):
        for thing in KINDS + OWN + (None, True, False, 0, 21, "2", (), (2,)):
            self.assertIs(refused(self, NoCount, bundles, self.gathering, ("cow",), thing).many, thing)
        for many in range(1, 21):
            self.assertEqual(bundles(self.gathering, ("cow",), many), ((("aa", "ab"),),) if many == 1 else ())

    def test_no_changes(self):
        for things in ((), ("cow",)):
            for wrong, place in ((["x"], None), (False, None), (CHANGES + ("x",), 2), (CHANGES * 7, None)):
                self.assertEqual(refused(self, NoChanges, counts, self.gathering, things, wrong).place, place)
                self.assertEqual(refused(self, NoChanges, bundles, self.gathering, things, 2, wrong).place, place)

    def test_the_first_from_the_left(self):
        wrong = (7, "cow", 0, [])
        good = (self.gathering, ("cow",), 1, ())
        for at, kind in enumerate((NoGathering, NoThings, NoCount, NoChanges)):
            refused(self, kind, bundles, *good[:at], *wrong[at:])
        for at, kind in enumerate((NoGathering, NoThings)):
            refused(self, kind, counts, *good[:at], *wrong[at:2], wrong[3])


if __name__ == "__main__":
    unittest.main()
