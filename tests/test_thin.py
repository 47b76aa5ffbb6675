import inspect
import random
import unittest

from tests.helper import KINDS, OWN, drawn_map, gathering_of, line_length, refused, some_rows, thin_fillings
from wordlines.errors import NoMap, NoName, NoWord
from wordlines.gatherings import Gathering
from wordlines.lands import Land
from wordlines.maps import WordMap
from wordlines.thin import fate, possible, thin

CHANGES = (("u", "o", "last"), ("k", "g", "first"))
NO_MAPS = KINDS + OWN[:2] + (None, True, False, 0, 1, (), "cow")
NO_WORDS = KINDS + OWN + (None, True, False, 0, 1, ())


def unasked(wordmap):
    return [name for name in wordmap.land.names() if name not in wordmap.asked()]


class TestThin(unittest.TestCase):
    def look_at_ways(self, wordmap, word):
        """Look whether the ways are as told; they show that no filling is shorter."""
        how, ways, least, greatest = thin(wordmap, word)
        has, asked = wordmap.have(word), wordmap.asked()
        self.assertEqual(len(ways), how)
        crossed = []
        for way in ways:
            self.assertIn(way[0], has)
            self.assertIn(way[-1], asked)
            self.assertNotIn(way[-1], has)
            self.assertEqual([name for name in way[1:-1] if name in asked], [])
            for name, other in zip(way, way[1:]):
                self.assertIn(other, wordmap.land.neighbours(name))
                crossed.append(frozenset((name, other)))
        self.assertEqual(len(set(crossed)), len(crossed))
        for filling in (least, greatest):
            self.assertEqual(list(filling), [name for name in unasked(wordmap) if name in filling])
            self.assertEqual(line_length(wordmap, word, filling), how)
        self.assertEqual([name for name in least if name not in greatest], [])

    def test_one_village(self):
        self.assertEqual(thin(drawn_map("ku"), "ku"), (0, (), (), ()))
        self.assertEqual(thin(drawn_map("ku"), "mu"), (0, (), (), ()))
        self.assertEqual(thin(drawn_map("?"), "ku"), (0, (), (), ("aa",)))

    def test_all_asked(self):
        self.assertEqual(thin(drawn_map("ku mu"), "ku"), (1, (("aa", "ab"),), (), ()))
        self.assertEqual(thin(drawn_map("ku mu"), "mu"), (1, (("ab", "aa"),), (), ()))
        self.assertEqual(thin(drawn_map("ku ku", "ku ku"), "ku"), (0, (), (), ()))
        how, ways, least, greatest = thin(drawn_map("ku mu", "mu ku"), "ku")
        self.assertEqual((how, sorted(ways)), (4, [("aa", "ab"), ("aa", "ba"), ("bb", "ab"), ("bb", "ba")]))
        self.assertEqual((least, greatest), ((), ()))

    def test_none_asked(self):
        wordmap = drawn_map("? ?", "- ?")
        self.assertEqual(thin(wordmap, "ku"), (0, (), (), ("aa", "ab", "bb")))

    def test_only_some_that_have_it(self):
        wordmap = drawn_map("ku ? -", "? - ?")
        self.assertEqual(thin(wordmap, "ku"), (0, (), ("ab", "ba"), ("ab", "ba", "bc")))

    def test_only_some_that_have_it_not(self):
        wordmap = drawn_map("mu ? -", "? - ?")
        self.assertEqual(thin(wordmap, "ku"), (0, (), (), ("bc",)))

    def test_a_row_between(self):
        wordmap = drawn_map("ku ? ? mu")
        self.assertEqual(thin(wordmap, "ku"), (1, (("aa", "ab", "ac", "ad"),), (), ("ab", "ac")))
        self.assertEqual(thin(wordmap, "mu"), (1, (("ad", "ac", "ab", "aa"),), (), ("ab", "ac")))

    def test_a_village_that_is_surely_in_and_one_that_is_not(self):
        wordmap = drawn_map("ku ku -", "? ? mu", "ku - mu")
        how, ways, least, greatest = thin(wordmap, "ku")
        self.assertEqual((how, least, greatest), (1, ("ba", "bb"), ("ba", "bb")))
        wordmap = drawn_map("mu", "?", "mu")
        self.assertEqual(thin(wordmap, "ku"), (0, (), (), ()))

    def test_ways_that_must_give_way_to_each_other(self):
        # The shortest way through the middle leaves room for no other one.
        wordmap = drawn_map("ku ? ?", "? ? ?", "? ? mu")
        how, ways, least, greatest = thin(wordmap, "ku")
        self.assertEqual(how, 2)
        self.assertEqual((least, greatest), ((), ("ab", "ac", "ba", "bb", "bc", "ca", "cb")))
        self.look_at_ways(wordmap, "ku")

    def test_several_words_in_one_village(self):
        wordmap = drawn_map("ku+mu ? mu")
        self.assertEqual(thin(wordmap, "ku"), (1, (("aa", "ab", "ac"),), (), ("ab",)))
        self.assertEqual(thin(wordmap, "mu"), (0, (), ("ab",), ("ab",)))

    def test_by_the_meaning(self):
        wordmap = drawn_map("ku ? go mu", changes=CHANGES)
        for word in ("ku", "ko", "gu", "go"):
            self.assertEqual(thin(wordmap, word), (1, (("ac", "ad"),), ("ab",), ("ab",)))
        self.assertEqual(thin(drawn_map("ku ? go mu"), "ko"), (0, (), (), ()))

    def test_doubtful_tellings_do_not_count(self):
        gathering = gathering_of("ku ? mu")
        gathering.put("ab", "cow", "ku", "ann", 30, "self", False)
        self.assertEqual(thin(WordMap(gathering, "cow"), "ku"), (1, (("aa", "ab", "ac"),), (), ("ab",)))

    def test_against_all_fillings_on_small_lands(self):
        chance = random.Random(10)
        for parts in (("ku", "mu", "?", "?", "?"), ("ku", "mu", "?", "?", "-"), ("ku", "?", "?"), ("mu", "?", "-")):
            for _ in range(40):
                wordmap = drawn_map(*some_rows(chance, parts, 3))
                told = thin_fillings(wordmap, "ku")
                how, ways, least, greatest = thin(wordmap, "ku")
                self.assertEqual(how, line_length(wordmap, "ku", told[0]))
                self.assertEqual(least, tuple(n for n in unasked(wordmap) if all(n in filling for filling in told)))
                self.assertEqual(greatest, tuple(n for n in unasked(wordmap) if any(n in filling for filling in told)))
                self.assertIn(least, told)
                self.assertIn(greatest, told)
                self.look_at_ways(wordmap, "ku")

    def test_lands_of_six_rows_and_columns(self):
        chance = random.Random(11)
        for parts in (("ku", "mu", "?", "?", "?"), ("ku", "mu") + ("?",) * 8, ("ku", "mu", "ku+mu", "?", "?", "-")):
            for _ in range(25):
                rows = [" ".join(chance.choice(parts) for _ in range(6)) for _ in range(6)]
                wordmap = drawn_map("ku ? ? ? ? mu", *rows[1:])
                self.look_at_ways(wordmap, "ku")
                self.look_at_ways(wordmap, "mu")

    def test_no_way_comes_to_a_village_twice(self):
        # On these lands ways that give way to each other leave steps behind that run round in a circle.
        for rows in (
            ("? ? ku ? ? ?", "? ? ? ? ? ?", "mu ? ? mu ? ?", "? ? ? ku ? ?", "? ? ? ? mu ?", "? ? ku ? ? ?"),
            ("? ku ku ? ? -", "? ? ? ? ? ?", "? mu ? ? ? -", "? ? ? ? - ?", "? ? ? ? mu ?", "mu ? ku ? - ?"),
            ("ku ? ? ? ? ?", "? ? mu ? ? ?", "- ? ? - ? ?", "ku ? - ? ? ?", "? ? ? ? ? ku", "mu ku ? mu ? -"),
            ("? ? ? mu ? ?", "ku ? mu ? ? ?", "? ku ku ? ? ku", "mu ? - ? ? ?", "? ? - ? mu ku", "ku ? ? ? - ?"),
        ):
            wordmap = drawn_map(*rows)
            self.look_at_ways(wordmap, "ku")
            for way in thin(wordmap, "ku")[1]:
                self.assertEqual(len(set(way)), len(way))

    def test_a_checkered_land(self):
        wordmap = drawn_map(*["ku mu ku mu ku mu", "mu ku mu ku mu ku"] * 3)
        self.assertEqual(thin(wordmap, "ku")[0], 60)
        self.look_at_ways(wordmap, "ku")

    def test_by_place_and_by_name_and_kinds(self):
        wordmap = drawn_map("ku ? mu")
        told = thin(wordmap, "ku")
        self.assertEqual(thin(word="ku", wordmap=wordmap), told)
        self.assertEqual([type(part) for part in told], [int, tuple, tuple, tuple])
        self.assertIs(type(told[1][0]), tuple)
        self.assertEqual(list(inspect.signature(thin).parameters), ["wordmap", "word"])

    def test_the_same_each_time_and_the_map_stays_as_it_was(self):
        rows = ("ku ? ? ?", "? ? - ?", "? ? ? mu")
        wordmap = drawn_map(*rows)
        self.assertEqual(thin(wordmap, "ku"), thin(wordmap, "ku"))
        fate(wordmap, "ku", "ab")
        possible(wordmap, "ab")
        self.assertEqual(wordmap, drawn_map(*rows))
        self.assertEqual(thin(wordmap, "ku"), thin(drawn_map(*rows), "ku"))


class TestFate(unittest.TestCase):
    def test_of_villages_that_were_asked(self):
        wordmap = drawn_map("ku mu ku+mu ?")
        self.assertEqual([fate(wordmap, "ku", name) for name in ("aa", "ab", "ac")], ["has", "not", "has"])
        self.assertEqual([fate(wordmap, "mu", name) for name in ("aa", "ab", "ac")], ["not", "has", "has"])
        self.assertEqual([fate(wordmap, "xu", name) for name in ("aa", "ab", "ac")], ["not", "not", "not"])

    def test_of_villages_that_were_not_asked(self):
        wordmap = drawn_map("ku ? ku ? mu ?")
        self.assertEqual([fate(wordmap, "ku", name) for name in ("ab", "ad", "af")], ["surely", "may", "not"])
        self.assertEqual([fate(wordmap, "mu", name) for name in ("ab", "ad", "af")], ["not", "may", "surely"])

    def test_where_no_way_leads_to_one_that_was_asked(self):
        wordmap = drawn_map("ku - ? ?", "mu - ? -")
        for name in ("ac", "ad", "bc"):
            for word in ("ku", "mu", "nomap"):
                self.assertEqual(fate(wordmap, word, name), "may")

    def test_against_all_fillings_on_small_lands(self):
        chance = random.Random(12)
        for _ in range(80):
            wordmap = drawn_map(*some_rows(chance, ("ku", "mu", "ku+mu", "?", "?", "?", "-"), 3))
            for word in ("ku", "mu", "xu"):
                told = thin_fillings(wordmap, word)
                for name in wordmap.land.names():
                    if name in wordmap.asked():
                        expected = "has" if name in wordmap.have(word) else "not"
                    elif all(name in filling for filling in told):
                        expected = "surely"
                    else:
                        expected = "may" if any(name in filling for filling in told) else "not"
                    self.assertEqual(fate(wordmap, word, name), expected)

    def test_against_one_more_village_asked_on_large_lands(self):
        chance = random.Random(13)
        for _ in range(4):
            rows = [" ".join(chance.choice(("ku", "mu", "?", "?", "?", "-")) for _ in range(6)) for _ in range(6)]
            wordmap = drawn_map(*rows)
            how = thin(wordmap, "ku")[0]
            for name in unasked(wordmap):
                longer = []
                for word in ("ku", "mu"):
                    gathering = gathering_of(*rows)
                    gathering.put(name, "cow", word, "zoe", 30)
                    longer.append(thin(WordMap(gathering, "cow"), "ku")[0] > how)
                expected = {(False, False): "may", (False, True): "surely", (True, False): "not"}[tuple(longer)]
                self.assertEqual(fate(wordmap, "ku", name), expected)

    def test_by_place_and_by_name(self):
        self.assertEqual(fate(village="ab", word="ku", wordmap=drawn_map("ku ?")), "surely")
        self.assertEqual(list(inspect.signature(fate).parameters), ["wordmap", "word", "village"])


class TestPossible(unittest.TestCase):
    def test_of_villages_that_were_asked(self):
        wordmap = drawn_map("ku mu+xu ku")
        self.assertEqual(possible(wordmap, "aa"), ("ku",))
        self.assertEqual(possible(wordmap, "ab"), ("mu", "xu"))

    def test_of_villages_that_were_not_asked(self):
        wordmap = drawn_map("ku ? mu", "xu - ?")
        self.assertEqual(possible(wordmap, "ab"), ("ku", "mu"))
        self.assertEqual(possible(wordmap, "bc"), ("mu",))
        self.assertEqual(possible(drawn_map("ku", "?", "ku"), "ba"), ("ku",))

    def test_where_no_way_leads_to_one_that_was_asked(self):
        wordmap = drawn_map("ku - ? ?", "mu - ? -", "xu+go - - -")
        for name in ("ac", "ad", "bc"):
            self.assertEqual(possible(wordmap, name), ("go", "ku", "mu", "xu"))

    def test_where_none_was_asked(self):
        self.assertEqual(possible(drawn_map("? ?"), "aa"), ())

    def test_by_the_meaning(self):
        self.assertEqual(possible(drawn_map("ku ? go", changes=CHANGES), "ab"), ("go",))
        self.assertEqual(possible(drawn_map("ku ? go"), "ab"), ("go", "ku"))

    def test_the_words_whose_fate_is_not_not(self):
        chance = random.Random(14)
        for _ in range(20):
            wordmap = drawn_map(*some_rows(chance, ("ku", "mu", "xu", "ku+xu", "?", "?", "?", "-"), 5))
            for name in wordmap.land.names():
                expected = tuple(word for word in wordmap.all_words() if fate(wordmap, word, name) != "not")
                self.assertEqual(possible(wordmap, name), expected)

    def test_by_place_and_by_name(self):
        told = possible(village="ab", wordmap=drawn_map("ku ?"))
        self.assertEqual(told, ("ku",))
        self.assertIs(type(told), tuple)
        self.assertEqual(list(inspect.signature(possible).parameters), ["wordmap", "village"])


class TestRefusals(unittest.TestCase):
    def test_no_map(self):
        for thing in NO_MAPS:
            for call, rest in ((thin, ("ku",)), (thin, (3,)), (fate, ("ku", "aa")), (fate, (3, 3)), (possible, ("aa",)),
                               (possible, (3,))):
                self.assertEqual(refused(self, NoMap, call, thing, *rest).place, 0)

    def test_no_word(self):
        wordmap = drawn_map("ku ?")
        for thing in NO_WORDS:
            self.assertIs(refused(self, NoWord, thin, wordmap, thing).word, thing)
            self.assertIs(refused(self, NoWord, fate, wordmap, thing, "aa").word, thing)
            self.assertIs(refused(self, NoWord, fate, wordmap, thing, "zz").word, thing)

    def test_no_name(self):
        empty = WordMap(Gathering(Land((("aa", None),))), "cow")
        for wordmap in (drawn_map("ku ?"), empty):
            for thing in NO_WORDS + ("zz", "ku", "a", "aaa", (0, 0)):
                self.assertIs(refused(self, NoName, fate, wordmap, "ku", thing).name, thing)
                self.assertIs(refused(self, NoName, possible, wordmap, thing).name, thing)


if __name__ == "__main__":
    unittest.main()
