import inspect
import random
import unittest

from tests.helper import KINDS, OWN, drawn_map, gathering_of, refused, some_rows
from wordlines.errors import NoMap, NoWord
from wordlines.gatherings import Gathering
from wordlines.lands import Land
from wordlines.lines import parted, parted_by
from wordlines.maps import WordMap
from wordlines.words import meaning

CHANGES = (("u", "o", "last"), ("k", "g", "first"))
NO_MAPS = KINDS + OWN[:2] + (None, True, False, 0, 1, (), "cow")


class TestParted(unittest.TestCase):
    def test_no_word_in_common(self):
        wordmap = drawn_map("ku mu", "ku ku")
        self.assertEqual(parted(wordmap), (("aa", "ab"), ("ab", "bb")))
        self.assertEqual(parted(drawn_map("ku ku", "ku ku")), ())

    def test_several_words_in_one_village(self):
        wordmap = drawn_map("ku+mu mu+xu xu")
        self.assertEqual(parted(wordmap), ())
        wordmap = drawn_map("ku+mu xu+yu mu")
        self.assertEqual(parted(wordmap), (("aa", "ab"), ("ab", "ac")))

    def test_villages_that_were_not_asked_part_from_none(self):
        self.assertEqual(parted(drawn_map("ku ? mu")), ())
        self.assertEqual(parted(drawn_map("? ?", "? ku")), ())
        self.assertEqual(parted(drawn_map("?")), ())

    def test_doubtful_tellings_do_not_count(self):
        gathering = gathering_of("ku ?", "mu mu")
        gathering.put("ab", "cow", "xu", "zoe", 30, "self", False)
        gathering.put("ba", "cow", "ku", "zoe", 30, "self", False)
        self.assertEqual(parted(WordMap(gathering, "cow")), (("aa", "ba"),))
        self.assertEqual(parted_by(WordMap(gathering, "cow"), "ku"), (("aa", "ba"),))

    def test_none_parts_across_a_lake_or_a_corner(self):
        self.assertEqual(parted(drawn_map("ku - mu")), ())
        self.assertEqual(parted(drawn_map("ku -", "- mu")), ())

    def test_words_that_are_one_by_changes(self):
        self.assertEqual(parted(drawn_map("ku go mu")), (("aa", "ab"), ("ab", "ac")))
        self.assertEqual(parted(drawn_map("ku go mu", changes=CHANGES)), (("ab", "ac"),))

    def test_rising_however_the_names_lie(self):
        gathering = Gathering(Land((("zz", "mm"), ("aa", "ff"))))
        for name in ("zz", "mm", "aa", "ff"):
            gathering.put(name, "cow", name, "ann", 30)
        wordmap = WordMap(gathering, "cow")
        self.assertEqual(parted(wordmap), (("aa", "ff"), ("aa", "zz"), ("ff", "mm"), ("mm", "zz")))
        self.assertEqual(parted_by(wordmap, "mm"), (("ff", "mm"), ("mm", "zz")))

    def test_one_village(self):
        self.assertEqual(parted(drawn_map("ku")), ())
        self.assertEqual(parted_by(drawn_map("ku"), "ku"), ())


class TestPartedBy(unittest.TestCase):
    def test_just_one_of_them_has_it(self):
        wordmap = drawn_map("ku+mu mu", "ku xu")
        self.assertEqual(parted_by(wordmap, "ku"), (("aa", "ab"), ("ba", "bb")))
        self.assertEqual(parted_by(wordmap, "mu"), (("aa", "ba"), ("ab", "bb")))
        self.assertEqual(parted_by(wordmap, "xu"), (("ab", "bb"), ("ba", "bb")))
        self.assertEqual(parted_by(wordmap, "nomap"), ())

    def test_both_were_asked(self):
        self.assertEqual(parted_by(drawn_map("ku ? mu"), "ku"), ())
        self.assertEqual(parted_by(drawn_map("ku - mu"), "ku"), ())

    def test_by_the_meaning(self):
        wordmap = drawn_map("ku go mu", changes=CHANGES)
        for word in ("ku", "ko", "gu", "go"):
            self.assertEqual(parted_by(wordmap, word), (("ab", "ac"),))
        self.assertEqual(parted_by(drawn_map("ku go mu"), "ku"), (("aa", "ab"),))
        self.assertEqual(parted_by(drawn_map("ku go mu"), "ko"), ())


class TestBoth(unittest.TestCase):
    def test_many_maps(self):
        chance = random.Random(7)
        for _ in range(60):
            rows = some_rows(chance, ("ku", "go", "mu", "ku+mu", "go+xu", "?", "-"))
            changes = chance.choice(((), CHANGES))
            wordmap = drawn_map(*rows, changes=changes)
            has = {name: {row[0] for row in wordmap.words(name)} for name in wordmap.land.names()}
            asked = [pair for pair in wordmap.land.borders() if has[pair[0]] and has[pair[1]]]
            self.assertEqual(parted(wordmap), tuple(pair for pair in asked if not has[pair[0]] & has[pair[1]]))
            for word in ("ku", "ko", "mu", "xu"):
                meant = meaning(word, changes)
                self.assertEqual(
                    parted_by(wordmap, word),
                    tuple(pair for pair in asked if len([name for name in pair if meant in has[name]]) == 1))

    def test_by_place_and_by_name_and_kinds(self):
        wordmap = drawn_map("ku mu")
        self.assertEqual(parted(wordmap=wordmap), (("aa", "ab"),))
        self.assertEqual(parted_by(word="ku", wordmap=wordmap), (("aa", "ab"),))
        for answer in (parted(wordmap), parted_by(wordmap, "ku")):
            self.assertIs(type(answer), tuple)
            self.assertIs(type(answer[0]), tuple)
        self.assertEqual(list(inspect.signature(parted).parameters), ["wordmap"])
        self.assertEqual(list(inspect.signature(parted_by).parameters), ["wordmap", "word"])

    def test_the_map_stays_as_it_was(self):
        wordmap = drawn_map("ku mu", "? ku+xu")
        parted(wordmap)
        parted_by(wordmap, "ku")
        self.assertEqual(wordmap, drawn_map("ku mu", "? ku+xu"))

    def test_no_map(self):
        for thing in NO_MAPS:
            self.assertEqual(refused(self, NoMap, parted, thing).place, 0)
            self.assertEqual(refused(self, NoMap, parted_by, thing, "ku").place, 0)
            self.assertEqual(refused(self, NoMap, parted_by, thing, "KU").place, 0)

    def test_no_word(self):
        for thing in KINDS + OWN + (None, True, False, 0, 1, ()):
            self.assertIs(refused(self, NoWord, parted_by, drawn_map("ku mu"), thing).word, thing)


if __name__ == "__main__":
    unittest.main()
