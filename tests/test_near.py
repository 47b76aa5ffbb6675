import fractions
import inspect
import random
import unittest

from tests.helper import KINDS, OWN, refused
from wordlines.errors import NoChanges, NoGathering, NoName
from wordlines.gatherings import Gathering
from wordlines.gathertexts import show_gathering
from wordlines.lands import Land
from wordlines.near import apart, farthest, nearest
from wordlines.words import meaning

LAND = Land((("aa", "bb", "cc"), (None, "dd", "ee")))
CHANGES = (("u", "o", "last"), ("k", "g", "first"))
NO_GATHERINGS = KINDS + (OWN[0], OWN[2], None, True, 0, (), "cow")
NO_NAMES = KINDS + OWN + (None, True, False, 0, 1, (), "zz", "a", "aaa", (0, 0), ("aa",))
AROUND = (nearest, farthest)


def told(*rows, land=LAND):
    """A Gathering of rows THING VILLAGE:WORD VILLAGE:WORD, words with `+` between, one with `?` behind doubtful."""
    gathering = Gathering(land)
    for row in rows:
        thing, *said = row.split()
        for part in said:
            village, words = part.split(":")
            for number, word in enumerate(words.split("+")):
                gathering.put(village, thing, word.strip("?"), "t" + "abcdefgh"[number], 30, "self", "?" not in word)
    return gathering


def apart_by_words(gathering, village, other, changes):
    """The answer as the document says it, word by word."""
    parted = common = 0
    for thing in gathering.things():
        said = [{meaning(telling[2], changes) for telling in gathering.tellings()
                 if telling[0] == name and telling[1] == thing and telling[6]} for name in (village, other)]
        if all(said):
            common += 1
            parted += not said[0] & said[1]
    return (parted, common) if common else None


def around_by_words(gathering, village, changes, choose):
    """The nearest (min) or the farthest (max) as the document says it."""
    shares = {}
    for other in gathering.land.names():
        share = apart_by_words(gathering, village, other, changes)
        if other != village and share is not None:
            shares[other] = fractions.Fraction(*share)
    return tuple(sorted(other for other in shares if shares[other] == choose(shares.values())))


class TestApart(unittest.TestCase):
    def test_no_thing_in_common(self):
        self.assertIs(apart(told(), "aa", "bb"), None)
        self.assertIs(apart(told("cow aa:ku", "pig bb:su"), "aa", "bb"), None)
        self.assertIs(apart(told("cow aa:ku cc:ku"), "aa", "bb"), None)
        self.assertIs(apart(told("cow aa:ku cc:ku"), "bb", "dd"), None)

    def test_some_things_in_common(self):
        gathering = told("cow aa:ku bb:ku", "pig aa:su bb:fu", "dog aa:wu bb:ho", "cat aa:mi", "hen bb:gak", "ox cc:bu")
        self.assertEqual(apart(gathering, "aa", "bb"), (2, 3))
        self.assertEqual(apart(told("cow aa:ku bb:ku"), "aa", "bb"), (0, 1))
        self.assertEqual(apart(told("cow aa:ku bb:mu"), "aa", "bb"), (1, 1))

    def test_villages_that_are_no_neighbours(self):
        self.assertEqual(apart(told("cow aa:ku ee:mu"), "aa", "ee"), (1, 1))

    def test_one_village_twice(self):
        gathering = told("cow aa:ku+mu", "pig aa:su", "dog aa:wu? bb:wu")
        self.assertEqual(apart(gathering, "aa", "aa"), (0, 2))
        self.assertIs(apart(gathering, "cc", "cc"), None)

    def test_doubtful_tellings_are_left_out(self):
        self.assertIs(apart(told("cow aa:ku bb:mu?"), "aa", "bb"), None)
        self.assertIs(apart(told("cow aa:ku? bb:ku?"), "aa", "bb"), None)
        self.assertIs(apart(told("cow aa:ku?"), "aa", "aa"), None)
        self.assertEqual(apart(told("cow aa:ku bb:ku?+mu"), "aa", "bb"), (1, 1))
        self.assertEqual(apart(told("cow aa:ku+mu? bb:ku+xu?"), "aa", "bb"), (0, 1))

    def test_several_words_of_one_thing_in_one_village(self):
        self.assertEqual(apart(told("cow aa:ku+mu bb:mu+xu"), "aa", "bb"), (0, 1))
        self.assertEqual(apart(told("cow aa:ku+mu bb:xu+yu+zu"), "aa", "bb"), (1, 1))
        self.assertEqual(apart(told("cow aa:ku+ku+ku bb:ku", "pig aa:su+su bb:fu+fu"), "aa", "bb"), (1, 2))

    def test_a_word_told_for_another_thing_does_not_count(self):
        self.assertEqual(apart(told("cow aa:ku bb:mu", "pig aa:mu bb:ku"), "aa", "bb"), (2, 2))

    def test_words_that_are_one_by_changes(self):
        gathering = told("cow aa:ku bb:go", "pig aa:su bb:so", "dog aa:wu bb:ho")
        self.assertEqual(apart(gathering, "aa", "bb"), (3, 3))
        self.assertEqual(apart(gathering, "aa", "bb", ()), (3, 3))
        self.assertEqual(apart(gathering, "aa", "bb", None), (3, 3))
        self.assertEqual(apart(gathering, "aa", "bb", CHANGES), (1, 3))
        self.assertEqual(apart(gathering, "aa", "bb", CHANGES[:1]), (2, 3))

    def test_tellers_of_all_ages_count(self):
        gathering = Gathering(LAND)
        gathering.put("aa", "cow", "ku", "ann", 0)
        gathering.put("bb", "cow", "ku", "ann", 120)
        self.assertEqual(apart(gathering, "aa", "bb"), (0, 1))

    def test_by_place_and_by_name_and_kinds(self):
        gathering = told("cow aa:ku bb:go")
        share = apart(changes=CHANGES, other="bb", village="aa", gathering=gathering)
        self.assertEqual(share, (0, 1))
        self.assertIs(type(share), tuple)
        self.assertEqual([type(part) for part in share], [int, int])
        self.assertEqual(list(inspect.signature(apart).parameters), ["gathering", "village", "other", "changes"])

    def test_many_gatherings_and_both_ways_about(self):
        chance = random.Random(20)
        seen = set()
        for _ in range(60):
            gathering = some_gathering(chance)
            changes = chance.choice((None, (), CHANGES))
            for village in LAND.names():
                for other in LAND.names():
                    share = apart(gathering, village, other, changes)
                    self.assertEqual(share, apart_by_words(gathering, village, other, changes))
                    self.assertEqual(share, apart(gathering, other, village, changes))
                    seen.add(share)
        self.assertGreater(len(seen), 6)


def some_gathering(chance, land=LAND):
    gathering = Gathering(land)
    keys = {(chance.choice(land.names()), chance.choice(("ta", "tb")), chance.choice(("cow", "pig", "dog", "cat")))
            for _ in range(chance.randint(0, 30))}
    for village, teller, thing in sorted(keys):
        word = chance.choice(("ku", "go", "mu", "mo", "xu"))
        gathering.put(village, thing, word, teller, 30, "self", chance.random() < 0.8)
    return gathering


class TestAround(unittest.TestCase):
    def test_where_there_is_none(self):
        for call in AROUND:
            self.assertEqual(call(told(), "aa"), ())
            self.assertEqual(call(told("cow aa:ku"), "aa"), ())
            self.assertEqual(call(told("cow bb:ku cc:ku"), "aa"), ())
            self.assertEqual(call(told("cow aa:ku bb:ku?"), "aa"), ())
            self.assertEqual(call(told("cow aa:ku?", "pig bb:su cc:su"), "aa"), ())
            self.assertEqual(call(told("cow aa:ku", land=Land((("aa",),))), "aa"), ())

    def test_one_alone_is_both(self):
        for call in AROUND:
            self.assertEqual(call(told("cow aa:ku bb:ku"), "aa"), ("bb",))
            self.assertEqual(call(told("cow aa:ku bb:mu"), "aa"), ("bb",))

    def test_the_least_and_the_greatest_share(self):
        gathering = told("cow aa:ku bb:ku cc:mu dd:mu", "pig aa:su bb:su cc:su dd:fu", "dog aa:wu bb:ho cc:wu dd:ho")
        self.assertEqual(nearest(gathering, "aa"), ("bb", "cc"))
        self.assertEqual(farthest(gathering, "aa"), ("dd",))

    def test_by_the_share_and_not_by_the_number(self):
        gathering = told("cow aa:ku bb:ku cc:mu", "pig aa:su bb:su", "dog aa:wu bb:ho", "cat aa:mi bb:ma dd:mi")
        # bb is 2 of 4 apart, cc 1 of 1, dd 0 of 1.
        self.assertEqual(farthest(gathering, "aa"), ("cc",))
        self.assertEqual(nearest(gathering, "aa"), ("dd",))
        gathering = told("cow aa:ku bb:ku cc:mu", "pig aa:su bb:fu cc:su", "dog aa:wu bb:ho cc:wu")
        self.assertEqual((nearest(gathering, "aa"), farthest(gathering, "aa")), (("cc",), ("bb",)))

    def test_shares_that_are_alike_by_unlike_numbers(self):
        gathering = told("cow aa:ku bb:ku cc:ku ee:mu", "pig aa:su bb:fu cc:su", "dog aa:wu cc:ho", "cat aa:mi cc:ma")
        self.assertEqual([apart(gathering, "aa", name) for name in ("bb", "cc", "ee")], [(1, 2), (2, 4), (1, 1)])
        self.assertEqual(nearest(gathering, "aa"), ("bb", "cc"))
        self.assertEqual(farthest(gathering, "aa"), ("ee",))
        gathering = told("cow aa:ku bb:ku cc:ku ee:ku", "pig aa:su bb:fu cc:su", "dog aa:wu cc:ho", "cat aa:mi cc:ma")
        self.assertEqual((nearest(gathering, "aa"), farthest(gathering, "aa")), (("ee",), ("bb", "cc")))
        gathering = told("cow aa:ku bb:ku cc:ku", "pig aa:su cc:su")
        self.assertEqual(nearest(gathering, "aa"), ("bb", "cc"))

    def test_shares_that_lie_close_together(self):
        land = Land((("aa", "bb", "cc"),))
        gathering = Gathering(land)
        letters = "abcdefghijklmnopqrstuvwxyz"
        for number in range(70):
            thing = letters[number // 26] + letters[number % 26]
            gathering.put("aa", thing, "ku", "ann", 30)
            gathering.put("bb", thing, "ku" if number < 35 else "mu", "ann", 30)
            if number < 59:
                gathering.put("cc", thing, "mu" if number < 30 else "ku", "ann", 30)
        self.assertEqual([apart(gathering, "aa", name) for name in ("bb", "cc")], [(35, 70), (30, 59)])
        self.assertEqual((nearest(gathering, "aa"), farthest(gathering, "aa")), (("bb",), ("cc",)))

    def test_all_ties_rising(self):
        rows = (("hh", "aa", "gg"), ("bb", "me", "ff"), ("ee", "cc", "dd"))
        gathering = told("cow hh:ku gg:ku bb:ku ff:ku aa:ku ee:ku cc:ku dd:ku me:ku", land=Land(rows))
        others = ("aa", "bb", "cc", "dd", "ee", "ff", "gg", "hh")
        for call in AROUND:
            self.assertEqual(call(gathering, "me"), others)

    def test_others_with_nothing_in_common_are_left_out(self):
        gathering = told("cow aa:ku bb:mu cc:mu", "pig dd:su", "dog aa:wu? ee:wu")
        for call in AROUND:
            self.assertEqual(call(gathering, "aa"), ("bb", "cc"))

    def test_the_village_itself_is_left_out(self):
        gathering = told("cow aa:ku bb:mu")
        for call in AROUND:
            self.assertEqual(call(gathering, "aa"), ("bb",))
            self.assertEqual(call(gathering, "bb"), ("aa",))

    def test_with_changes(self):
        gathering = told("cow aa:ku bb:go cc:ku", "pig aa:su bb:so cc:fu")
        for changes in (None, ()):
            self.assertEqual((nearest(gathering, "aa", changes), farthest(gathering, "aa", changes)), (("cc",), ("bb",)))
        self.assertEqual((nearest(gathering, "aa"), farthest(gathering, "aa")), (("cc",), ("bb",)))
        self.assertEqual((nearest(gathering, "aa", CHANGES), farthest(gathering, "aa", CHANGES)), (("bb",), ("cc",)))

    def test_by_place_and_by_name_and_kinds(self):
        gathering = told("cow aa:ku bb:go cc:ku", "pig aa:su bb:so cc:fu")
        self.assertEqual(nearest(changes=CHANGES, village="aa", gathering=gathering), ("bb",))
        self.assertEqual(farthest(changes=CHANGES, village="aa", gathering=gathering), ("cc",))
        for call in AROUND:
            self.assertIs(type(call(gathering, "aa")), tuple)
            self.assertIs(type(call(gathering, "ee")), tuple)
            self.assertEqual(list(inspect.signature(call).parameters), ["gathering", "village", "changes"])

    def test_many_gatherings(self):
        chance = random.Random(21)
        seen = set()
        for _ in range(80):
            gathering = some_gathering(chance)
            changes = chance.choice((None, (), CHANGES))
            for village in LAND.names():
                near, far = nearest(gathering, village, changes), farthest(gathering, village, changes)
                self.assertEqual(near, around_by_words(gathering, village, changes, min))
                self.assertEqual(far, around_by_words(gathering, village, changes, max))
                seen.add((len(near), len(far)))
        self.assertGreater(len(seen), 6)


class TestRefusals(unittest.TestCase):
    def setUp(self):
        self.good = told("cow aa:ku bb:mu")

    def test_no_gathering(self):
        for thing in NO_GATHERINGS + (show_gathering(self.good),):
            refused(self, NoGathering, apart, thing, "aa", "bb")
            for call in AROUND:
                refused(self, NoGathering, call, thing, "aa")

    def test_no_name(self):
        for thing in NO_NAMES:
            self.assertIs(refused(self, NoName, apart, self.good, thing, "aa").name, thing)
            self.assertIs(refused(self, NoName, apart, self.good, "aa", thing).name, thing)
            self.assertIs(refused(self, NoName, apart, told(), thing, thing).name, thing)
            for call in AROUND:
                self.assertIs(refused(self, NoName, call, self.good, thing).name, thing)
                self.assertIs(refused(self, NoName, call, told(), thing).name, thing)

    def test_the_one_then_the_other(self):
        self.assertEqual(refused(self, NoName, apart, self.good, "yy", "zz").name, "yy")
        self.assertEqual(refused(self, NoName, apart, self.good, "aa", "zz").name, "zz")

    def test_no_changes(self):
        # Of a Gathering without any telling, too.
        for gathering in (self.good, told()):
            for call, rest in ((apart, ("aa", "bb")), (nearest, ("aa",)), (farthest, ("aa",))):
                for thing in ([("a", "b", "any")], False, 0, "any", CHANGES * 7, {}, OWN[0]):
                    self.assertIs(refused(self, NoChanges, call, gathering, *rest, thing).place, None)
                for thing in (("a", "a", "any"), ("a", "b", "some"), ["a", "b", "any"], None):
                    self.assertEqual(refused(self, NoChanges, call, gathering, *rest, CHANGES + (thing,)).place, 2)
                    self.assertEqual(refused(self, NoChanges, call, gathering, *rest, (thing,) * 12).place, 0)

    def test_the_first_from_the_left(self):
        good, wrong = (self.good, "aa", "bb"), (7, "yy", "zz", [])
        for at, kind in enumerate((NoGathering, NoName, NoName, NoChanges)):
            error = refused(self, kind, apart, *good[:at], *wrong[at:])
            if kind is NoName:
                self.assertEqual(error.name, wrong[at])
        for call in AROUND:
            refused(self, NoGathering, call, 7, "zz", [])
            self.assertEqual(refused(self, NoName, call, self.good, "zz", []).name, "zz")
            refused(self, NoChanges, call, self.good, "aa", [])

    def test_the_gathering_stays_as_it_was(self):
        before = self.good.tellings()
        apart(self.good, "aa", "bb", CHANGES)
        nearest(self.good, "aa", CHANGES)
        farthest(self.good, "aa", CHANGES)
        refused(self, NoName, apart, self.good, "aa", "zz")
        self.assertEqual(self.good.tellings(), before)
        self.good.back()
        self.assertEqual(self.good.tellings(), before[:1])


if __name__ == "__main__":
    unittest.main()
