import inspect
import random
import unittest

from tests.helper import KINDS, OWN, AlikeToAll, refused
from wordlines.errors import NoAge, NoChanges, NoGathering, NoMap, NoName, NoWord
from wordlines.gatherings import Gathering
from wordlines.lands import Land
from wordlines.maps import WordMap, differences
from wordlines.words import meaning

LAND = Land((("aa", "bb"), (None, "cc"), ("dd", "ee")))
CHANGES = (("u", "o", "last"), ("k", "g", "first"))


def some_gathering():
    gathering = Gathering(LAND)
    for telling in (
        ("aa", "cow", "ku", "ann", 30),
        ("aa", "cow", "go", "bob", 70),
        ("aa", "cow", "mu", "cid", 12),
        ("aa", "cow", "mu", "dan", 80, "ida", False),
        ("bb", "cow", "ko", "eve", 50),
        ("bb", "cow", "ko", "eve", 51, "ida"),
        ("bb", "pig", "su", "eve", 50),
        ("cc", "cow", "ku", "fay", 5, "self", False),
        ("cc", "cow", "gu", "fay", 8, "ida", False),
        ("dd", "pig", "su", "gus", 40),
    ):
        gathering.put(*telling)
    return gathering


def map_of(**villages):
    """A map on which each village has the words of its text."""
    gathering = Gathering(LAND)
    for village, words in villages.items():
        for number, word in enumerate(words.split()):
            gathering.put(village, "cow", word, "abcdefgh"[number], 30)
    return WordMap(gathering, "cow")


class TestWordMap(unittest.TestCase):
    def setUp(self):
        self.map = WordMap(some_gathering(), "cow")
        self.changed = WordMap(some_gathering(), "cow", CHANGES)

    def test_words_without_changes(self):
        self.assertEqual(self.map.words("aa"), (("go", 70, 70, 1), ("ku", 30, 30, 1), ("mu", 12, 12, 1)))
        self.assertEqual(self.map.words("bb"), (("ko", 50, 51, 2),))
        for village in ("cc", "dd", "ee"):
            self.assertEqual(self.map.words(village), ())

    def test_words_by_meanings(self):
        self.assertEqual(self.changed.words("aa"), (("go", 30, 70, 2), ("mo", 12, 12, 1)))
        self.assertEqual(self.changed.words("bb"), (("go", 50, 51, 2),))
        self.assertEqual(self.changed.words(village="cc"), ())

    def test_doubtful_ones_apart(self):
        self.assertEqual(self.map.doubtful("aa"), (("mu", 80, 80, 1),))
        self.assertEqual(self.map.doubtful("bb"), ())
        self.assertEqual(self.map.doubtful("cc"), (("gu", 8, 8, 1), ("ku", 5, 5, 1)))
        self.assertEqual(self.changed.doubtful(village="cc"), (("go", 5, 8, 2),))

    def test_have(self):
        self.assertEqual(self.map.have("ko"), ("bb",))
        self.assertEqual(self.map.have("mu"), ("aa",))
        self.assertEqual(self.map.have("gu"), ())
        for word in ("ko", "ku", "go", "gu"):
            self.assertEqual(self.changed.have(word), ("aa", "bb"))
        self.assertEqual(self.changed.have(word="mo"), ("aa",))
        self.assertEqual(self.changed.have("nomap"), ())
        self.assertEqual(self.changed.have("su"), ())

    def test_asked_and_all_words(self):
        self.assertEqual(self.map.asked(), ("aa", "bb"))
        self.assertEqual(self.map.all_words(), ("go", "ko", "ku", "mu"))
        self.assertEqual(self.changed.all_words(), ("go", "mo"))
        empty = WordMap(some_gathering(), "cat")
        self.assertEqual(empty.asked(), ())
        self.assertEqual(empty.all_words(), ())

    def test_fields(self):
        self.assertEqual(self.map.land, LAND)
        self.assertEqual(self.map.thing, "cow")

    def test_kinds_of_what_is_told(self):
        told = (self.map.words("aa"), self.map.words("aa")[0], self.map.doubtful("aa"), self.map.doubtful("aa")[0],
                self.map.have("ku"), self.map.asked(), self.map.all_words(), differences(self.map, self.changed))
        for row in told:
            self.assertIs(type(row), tuple)

    def test_least_and_most(self):
        gathering = some_gathering()
        self.assertEqual(WordMap(gathering, "cow", None, 30).words("aa"), (("go", 70, 70, 1), ("ku", 30, 30, 1)))
        self.assertEqual(WordMap(gathering, "cow", None, 31).words("aa"), (("go", 70, 70, 1),))
        self.assertEqual(WordMap(gathering, "cow", None, 12, 30).words("aa"), (("ku", 30, 30, 1), ("mu", 12, 12, 1)))
        self.assertEqual(WordMap(gathering, "cow", None, 13, 29).words("aa"), ())
        self.assertEqual(WordMap(gathering, "cow", most=29).words("aa"), (("mu", 12, 12, 1),))
        self.assertEqual(WordMap(gathering, "cow", least=51, most=51).words("bb"), (("ko", 51, 51, 1),))
        self.assertEqual(WordMap(gathering, "cow", least=51, most=51).asked(), ("bb",))
        self.assertEqual(WordMap(gathering, "cow", least=6).doubtful("cc"), (("gu", 8, 8, 1),))
        self.assertEqual(WordMap(gathering, "cow", most=79).doubtful("aa"), ())

    def test_least_and_most_at_their_bounds(self):
        gathering = Gathering(LAND)
        gathering.put("aa", "cow", "ku", "ann", 0)
        gathering.put("aa", "cow", "ku", "bob", 120)
        self.assertEqual(WordMap(gathering, "cow").words("aa"), (("ku", 0, 120, 2),))
        self.assertEqual(WordMap(gathering, "cow", (), 0, 120).words("aa"), (("ku", 0, 120, 2),))
        self.assertEqual(WordMap(gathering, "cow", (), 0, 0).words("aa"), (("ku", 0, 0, 1),))
        self.assertEqual(WordMap(gathering, "cow", (), 120, 120).words("aa"), (("ku", 120, 120, 1),))
        self.assertEqual(WordMap(gathering, "cow", (), 1, 119).words("aa"), ())

    def test_by_place_and_by_name(self):
        gathering = some_gathering()
        named = WordMap(most=60, least=20, changes=CHANGES, thing="cow", gathering=gathering)
        placed = WordMap(gathering, "cow", CHANGES, 20, 60)
        self.assertEqual(named.words("aa"), placed.words("aa"))
        self.assertEqual(named.words("aa"), (("go", 30, 30, 1),))
        self.assertEqual(differences(other=named, one=placed), ())

    def test_what_stands_where_an_argument_is_left_out(self):
        left_out = [parameter.default for parameter in inspect.signature(WordMap).parameters.values()]
        self.assertEqual(left_out[2:], [None, 0, 120])

    def test_len_str_repr(self):
        self.assertEqual(len(self.map), 2)
        self.assertEqual(str(self.map), "go+ku+mu ko\n- ?\n? ?")
        self.assertEqual(str(self.changed), "go+mo go\n- ?\n? ?")
        self.assertEqual(repr(self.map), "WordMap(cow)")
        empty = WordMap(Gathering(LAND), "cat")
        self.assertEqual(len(empty), 0)
        self.assertEqual(str(empty), "? ?\n- ?\n? ?")
        self.assertEqual(repr(empty), "WordMap(cat)")

    def test_it_stays_as_it_was_made(self):
        gathering = some_gathering()
        made = WordMap(gathering, "cow", CHANGES)
        gathering.put("dd", "cow", "mu", "zoe", 3)
        gathering.strike("bb", "eve", "cow")
        gathering.strike("bb", "eve", "cow", "ida")
        self.assertEqual(made, self.changed)
        for village in LAND.names():
            self.assertEqual(made.words(village), self.changed.words(village))
            self.assertEqual(made.doubtful(village), self.changed.doubtful(village))
        self.assertEqual(made.have("mu"), ("aa",))
        self.assertEqual(made.asked(), ("aa", "bb"))
        self.assertEqual(str(made), str(self.changed))
        self.assertEqual(len(made), 2)
        self.assertEqual(WordMap(gathering, "cow", CHANGES).asked(), ("aa", "dd"))

    def test_the_gathering_stays_as_it_was(self):
        gathering = some_gathering()
        WordMap(gathering, "cow", CHANGES, 10, 20)
        self.assertEqual(gathering.tellings(), some_gathering().tellings())
        gathering.back()
        self.assertEqual(len(gathering), 9)

    def test_many_gatherings(self):
        chance = random.Random(2)
        for _ in range(40):
            gathering = Gathering(LAND)
            for number in range(chance.randint(0, 40)):
                word = "".join(chance.choice("kguo") for _ in range(2))
                gathering.put(chance.choice(LAND.names()), chance.choice(("cow", "pig")), word, "t" + "abcdefgh"[number % 8]
                              + "abcdefgh"[number // 8], chance.randint(0, 120), "self", chance.random() < 0.7)
            changes = chance.choice(((), CHANGES, CHANGES[:1], (("k", "o", "any"),)))
            least = chance.randint(0, 60)
            most = chance.randint(least, 120)
            made = WordMap(gathering, "cow", changes, least, most)
            for village in LAND.names():
                for sure, told in ((True, made.words(village)), (False, made.doubtful(village))):
                    ages = {}
                    for telling in gathering.tellings():
                        if telling[0] == village and telling[1] == "cow" and least <= telling[4] <= most and telling[6] is sure:
                            ages.setdefault(meaning(telling[2], changes), []).append(telling[4])
                    self.assertEqual(told, tuple(sorted((w, min(a), max(a), len(a)) for w, a in ages.items())))
                has = {row[0] for row in made.words(village)}
                self.assertEqual(village in made.asked(), bool(has))
                for one in "kguo":
                    for other in "kguo":
                        self.assertEqual(village in made.have(one + other), meaning(one + other, changes) in has)
            self.assertEqual(made.all_words(), tuple(sorted({r[0] for v in LAND.names() for r in made.words(v)})))
            self.assertEqual(len(made), len(made.asked()))


class TestLikeness(unittest.TestCase):
    def test_whoever_told_whatever_thing(self):
        one, other = Gathering(LAND), Gathering(Land(LAND.rows))
        one.put("aa", "cow", "ku", "ann", 30)
        one.put("aa", "cow", "mu", "bob", 30)
        other.put("aa", "pig", "mu", "cid", 70, "ida")
        other.put("aa", "pig", "ku", "dan", 80)
        other.put("aa", "pig", "ku", "eve", 80)
        other.put("bb", "pig", "ku", "eve", 80, "self", False)
        self.assertTrue(WordMap(one, "cow") == WordMap(other, "pig"))
        self.assertFalse(WordMap(one, "cow") != WordMap(other, "pig"))
        self.assertEqual(differences(WordMap(one, "cow"), WordMap(other, "pig")), ())

    def test_unlike_words(self):
        self.assertTrue(map_of(aa="ku") == map_of(aa="ku"))
        for other in (map_of(), map_of(aa="mu"), map_of(bb="ku"), map_of(aa="ku mu"), map_of(aa="ku", bb="ku")):
            self.assertFalse(map_of(aa="ku") == other)
            self.assertTrue(map_of(aa="ku") != other)

    def test_unlike_lands(self):
        other = Land((("aa", "bb"), ("cc", None), ("dd", "ee")))
        self.assertFalse(WordMap(Gathering(LAND), "cow") == WordMap(Gathering(other), "cow"))

    def test_words_are_compared_by_their_meanings(self):
        one, other = Gathering(LAND), Gathering(LAND)
        one.put("aa", "cow", "ku", "ann", 30)
        other.put("aa", "cow", "go", "ann", 30)
        self.assertFalse(WordMap(one, "cow") == WordMap(other, "cow"))
        self.assertTrue(WordMap(one, "cow", CHANGES) == WordMap(other, "cow", CHANGES))
        self.assertEqual(differences(WordMap(one, "cow"), WordMap(other, "cow")), ("aa",))

    def test_things_of_other_kinds(self):
        made = map_of(aa="ku")
        for thing in KINDS + OWN[:2] + (None, True, 1, (), str(made), repr(made)):
            self.assertIs(made == thing, False)
            self.assertIs(made != thing, True)
            if not isinstance(thing, AlikeToAll):
                self.assertIs(thing == made, False)

    def test_differences(self):
        one = map_of(aa="ku", bb="ku mu", cc="mu", dd="x y")
        other = map_of(aa="ku", bb="ku", dd="y x", ee="mu")
        self.assertEqual(differences(one, other), ("bb", "cc", "ee"))
        self.assertEqual(differences(other, one), ("bb", "cc", "ee"))
        self.assertEqual(differences(one, one), ())


class TestRefusals(unittest.TestCase):
    def test_no_gathering(self):
        for thing in KINDS + (OWN[0], OWN[2], None, True, (), str(some_gathering())):
            refused(self, NoGathering, WordMap, thing, "cow")

    def test_no_word_for_the_thing(self):
        for thing in KINDS + OWN + (None, True, 0, ()):
            self.assertIs(refused(self, NoWord, WordMap, some_gathering(), thing).word, thing)

    def test_no_changes(self):
        self.assertIs(refused(self, NoChanges, WordMap, some_gathering(), "cow", [("a", "b", "any")]).place, None)
        self.assertIs(refused(self, NoChanges, WordMap, some_gathering(), "cow", False).place, None)
        self.assertEqual(refused(self, NoChanges, WordMap, some_gathering(), "cow", CHANGES + ("x",)).place, 2)

    def test_no_age(self):
        for thing in KINDS + OWN + (None, True, False, (), "0", -1, 121):
            self.assertIs(refused(self, NoAge, WordMap, some_gathering(), "cow", None, thing).age, thing)
            self.assertIs(refused(self, NoAge, WordMap, some_gathering(), "cow", None, 0, thing).age, thing)

    def test_most_below_least(self):
        self.assertEqual(refused(self, NoAge, WordMap, some_gathering(), "cow", None, 31, 30).age, 30)
        self.assertEqual(refused(self, NoAge, WordMap, some_gathering(), "cow", least=120, most=0).age, 0)
        self.assertEqual(refused(self, NoAge, WordMap, some_gathering(), "cow", least=121, most=3).age, 121)

    def test_the_first_from_the_left(self):
        wrong = (7, "COW", [], -1, 121)
        good = (some_gathering(), "cow", (), 50)
        kinds = (NoGathering, NoWord, NoChanges, NoAge, NoAge)
        for at, kind in enumerate(kinds):
            error = refused(self, kind, WordMap, *good[:at], *wrong[at:])
            if kind == NoAge:
                self.assertEqual(error.age, wrong[at])

    def test_no_name(self):
        made = map_of(aa="ku")
        for thing in KINDS + OWN + (None, True, 0, (), "ku", "a", "self", (0, 0)):
            self.assertIs(refused(self, NoName, made.words, thing).name, thing)
            self.assertIs(refused(self, NoName, made.doubtful, thing).name, thing)

    def test_no_word_that_villages_have(self):
        made = map_of(aa="ku")
        for thing in KINDS + OWN + (None, True, 0, ()):
            self.assertIs(refused(self, NoWord, made.have, thing).word, thing)

    def test_no_map(self):
        made = map_of(aa="ku")
        for thing in KINDS + OWN[:2] + (None, True, 0, (), str(made)):
            self.assertEqual(refused(self, NoMap, differences, thing, made).place, 0)
            self.assertEqual(refused(self, NoMap, differences, made, thing).place, 1)
            self.assertEqual(refused(self, NoMap, differences, thing, thing).place, 0)

    def test_no_map_of_unlike_lands(self):
        other = WordMap(Gathering(Land((("aa",),))), "cow")
        self.assertIs(refused(self, NoMap, differences, map_of(aa="ku"), other).place, None)
        self.assertIs(refused(self, NoMap, differences, other, map_of(aa="ku")).place, None)


if __name__ == "__main__":
    unittest.main()
