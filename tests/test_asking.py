import inspect
import random
import unittest

from tests.helper import KINDS, OWN, drawn_map, refused, some_rows, thin_fillings
from wordlines.asking import asks_needed, fillings, plan
from wordlines.errors import NoMap, NoWord, TooMany
from wordlines.thin import fate

CHANGES = (("u", "o", "last"), ("k", "g", "first"))
NO_MAPS = KINDS + OWN[:2] + (None, True, False, 0, 1, (), "cow")
CALLS = (fillings, plan, asks_needed)


def fewest_asks(left):
    """The fewest asks in the worst story, found by going through all villages that tell some fillings apart."""
    if len(left) == 1:
        return 0
    best = None
    for name in sorted({name for filling in left for name in filling}):
        has = [filling for filling in left if name in filling]
        hasnt = [filling for filling in left if name not in filling]
        if has and hasnt:
            asks = 1 + max(fewest_asks(has), fewest_asks(hasnt))
            best = asks if best is None else min(best, asks)
    return best


def those_that_may(wordmap, word):
    return [name for name in wordmap.land.names() if fate(wordmap, word, name) == "may"]


class TestAsking(unittest.TestCase):
    def follow(self, told, left, wordmap):
        """Look whether a plan knows each of the fillings left; how many asks it takes in the worst story."""
        if not left:
            self.assertIs(told, None)
            return 0
        self.assertIs(type(told), tuple)
        if told == ():
            self.assertEqual(len(left), 1)
            return 0
        name, has, hasnt = told
        self.assertGreater(len(left), 1)
        self.assertIn(name, wordmap.land.names())
        self.assertNotIn(name, wordmap.asked())
        return 1 + max(self.follow(has, [filling for filling in left if name in filling], wordmap),
                       self.follow(hasnt, [filling for filling in left if name not in filling], wordmap))

    def look_at(self, wordmap, word, told):
        """Look at all three answers; told are the thin fillings."""
        self.assertEqual(fillings(wordmap, word), told)
        asks = asks_needed(wordmap, word)
        self.assertEqual(asks, fewest_asks(told))
        self.assertEqual(self.follow(plan(wordmap, word), told, wordmap), asks)

    def test_where_one_is_left(self):
        for rows in (("ku mu",), ("ku",), ("ku ?",), ("mu ?",), ("ku ku -", "? ? mu", "ku - mu")):
            wordmap = drawn_map(*rows)
            self.assertEqual(len(fillings(wordmap, "ku")), 1)
            self.assertEqual(plan(wordmap, "ku"), ())
            self.assertEqual(asks_needed(wordmap, "ku"), 0)
        self.assertEqual(fillings(drawn_map("ku ?"), "ku"), (("ab",),))
        self.assertEqual(fillings(drawn_map("mu ?"), "ku"), ((),))

    def test_one_village_not_asked(self):
        wordmap = drawn_map("ku ? mu")
        self.assertEqual(fillings(wordmap, "ku"), ((), ("ab",)))
        self.assertEqual(plan(wordmap, "ku"), ("ab", (), ()))
        self.assertEqual(asks_needed(wordmap, "ku"), 1)

    def test_a_row_is_halved(self):
        wordmap = drawn_map("ku ? ? ? mu")
        self.assertEqual(fillings(wordmap, "ku"), ((), ("ab",), ("ab", "ac"), ("ab", "ac", "ad")))
        self.assertEqual(plan(wordmap, "ku"), ("ac", ("ad", (), ()), ("ab", (), ())))
        self.assertEqual(asks_needed(wordmap, "ku"), 2)
        self.assertEqual(fillings(wordmap, "mu"), ((), ("ab", "ac", "ad"), ("ac", "ad"), ("ad",)))

    def test_a_village_that_is_surely_in_stands_in_each(self):
        self.assertEqual(fillings(drawn_map("ku ? ku ? mu"), "ku"), (("ab",), ("ab", "ad")))

    def test_six_that_may_have_the_word(self):
        wordmap = drawn_map("? - ? - ?", "- ? - ? -", "ku - - - ?")
        self.assertEqual(len(those_that_may(wordmap, "ku")), 6)
        self.assertEqual(len(fillings(wordmap, "ku")), 64)
        self.assertEqual(asks_needed(wordmap, "ku"), 6)
        self.look_at(wordmap, "ku", thin_fillings(wordmap, "ku"))
        wordmap = drawn_map("ku ? ?", "? ? ?", "? mu mu")
        self.look_at(wordmap, "ku", thin_fillings(wordmap, "ku"))
        around = drawn_map("ku ? ? ?", "- - - ?", "- mu ? ?")
        self.assertEqual(len(fillings(around, "ku")), 7)
        self.assertEqual(asks_needed(around, "ku"), 3)

    def test_more_than_six_that_may_have_it(self):
        for rows, many in (
            (("? - ? - ?", "- ? - ? -", "ku - ? - ?"), 7), (("ku ? ? ? ?", "- - - - ?", "- - mu ? ?"), 7),
            (("? ? ? ? ? ?",) * 6, 36),
        ):
            for call in CALLS:
                self.assertEqual(refused(self, TooMany, call, drawn_map(*rows), "ku").many, many)

    def test_villages_surely_in_or_not_in_do_not_count(self):
        wordmap = drawn_map("? ? ? ? ? ?", "ku - - - - mu", "? ? ku ? mu ?", "- - - - - -", "? - ku ? ? ?")
        self.assertEqual(those_that_may(wordmap, "ku"), ["aa", "ab", "ac", "ad", "ae", "af", "cd", "ea"])
        self.assertEqual(refused(self, TooMany, plan, wordmap, "ku").many, 8)
        wordmap = drawn_map("? ? ? ? ? ?", "ku ? ? ? ? ?", "- - - - - -", "? ku ? ? mu ?")
        self.assertEqual(fillings(wordmap, "ku")[0], (
            "aa", "ab", "ac", "ad", "ae", "af", "bb", "bc", "bd", "be", "bf", "da"))
        self.assertEqual(asks_needed(wordmap, "ku"), 2)

    def test_against_all_fillings_on_small_lands(self):
        chance = random.Random(15)
        seen = set()
        for parts in ("ku mu ? ? ?", "ku mu ? ? ? -", "ku ? - ?", "mu ? -", "ku mu ? ? ? - - -"):
            for _ in range(60):
                wordmap = drawn_map(*some_rows(chance, parts.split(), 5))
                may = those_that_may(wordmap, "ku")
                if len(wordmap.land) - len(wordmap) > 10:
                    continue
                if len(may) > 6:
                    self.assertEqual(refused(self, TooMany, plan, wordmap, "ku").many, len(may))
                    continue
                told = thin_fillings(wordmap, "ku")
                self.look_at(wordmap, "ku", told)
                seen.add(len(told))
        self.assertGreater(len(seen), 5)

    def test_large_lands(self):
        chance = random.Random(16)
        looked_at = 0
        while looked_at < 12:
            rows = [" ".join(chance.choice(("ku", "mu", "?", "-")) for _ in range(6)) for _ in range(6)]
            wordmap = drawn_map(*rows)
            if len(wordmap.land) - len(wordmap) <= 11 and len(those_that_may(wordmap, "ku")) <= 6:
                looked_at += 1
                self.look_at(wordmap, "ku", thin_fillings(wordmap, "ku"))

    def test_by_the_meaning(self):
        wordmap = drawn_map("ku ? go ? mu", changes=CHANGES)
        self.assertEqual(fillings(wordmap, "ko"), (("ab",), ("ab", "ad")))
        self.assertEqual(plan(wordmap, "gu"), ("ad", (), ()))
        self.assertEqual(asks_needed(wordmap, "go"), 1)

    def test_by_place_and_by_name_and_kinds(self):
        wordmap = drawn_map("ku ? mu")
        self.assertEqual(fillings(word="ku", wordmap=wordmap), fillings(wordmap, "ku"))
        self.assertEqual(plan(word="ku", wordmap=wordmap), plan(wordmap, "ku"))
        self.assertEqual(asks_needed(word="ku", wordmap=wordmap), 1)
        for row in (fillings(wordmap, "ku"), fillings(wordmap, "ku")[1], plan(wordmap, "ku")):
            self.assertIs(type(row), tuple)
        self.assertIs(type(asks_needed(wordmap, "ku")), int)
        for call in CALLS:
            self.assertEqual(list(inspect.signature(call).parameters), ["wordmap", "word"])

    def test_the_same_each_time_and_the_map_stays_as_it_was(self):
        rows = ("ku ? ?", "? - ?", "mu ? mu")
        wordmap = drawn_map(*rows)
        for call in CALLS:
            self.assertEqual(call(wordmap, "ku"), call(wordmap, "ku"))
            self.assertEqual(call(wordmap, "ku"), call(drawn_map(*rows), "ku"))
        self.assertEqual(wordmap, drawn_map(*rows))

    def test_no_map_and_no_word(self):
        free = drawn_map("? ? ? ? ? ?", "? ? ? ? ? ?")
        for call in CALLS:
            for thing in NO_MAPS:
                self.assertEqual(refused(self, NoMap, call, thing, "ku").place, 0)
                self.assertEqual(refused(self, NoMap, call, thing, 3).place, 0)
            for thing in KINDS + OWN + (None, True, False, 0, 1, ()):
                self.assertIs(refused(self, NoWord, call, drawn_map("ku ? mu"), thing).word, thing)
                self.assertIs(refused(self, NoWord, call, free, thing).word, thing)


if __name__ == "__main__":
    unittest.main()
