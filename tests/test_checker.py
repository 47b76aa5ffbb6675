import inspect
import itertools
import random
import unittest

from tests.helper import KINDS, OWN, nested, spoilt, with_lists, with_truths
from wordlines.checker import holds
from wordlines.lands import Land
from wordlines.words import are_one

# None of these keeps what a claim or a paper asks for, wherever it stands in those below.
ANY = KINDS + OWN + (True, False, nested(9, ("aa",)), ("aa", ["bb"]), {"one": 1}, [("one",)], ("one",), ("two",))

# A row of six villages.
ROW = (("aa", "bb", "cc", "dd", "ee", "ff"),)
# A land about a lake.
ABOUT = (("aa", "bb", "cc"), ("dd", None, "ee"), ("ff", "gg", "hh"))
SQUARE = (("aa", "bb", "cc"), ("dd", "ee", "ff"), ("gg", "hh", "ii"))

CHANGES = (("u", "o", "last"), ("k", "g", "first"), ("e", "i", "any"))

# For each word a claim with a paper that keeps all.
RIGHT = (
    (("one", "kimu", "gemo", CHANGES), ("kimu", "gimu", "gemu", "gemo")),
    (("unlike", "keku", "kegu", CHANGES), (2, ("k",))),
    (("unlike", "ku", "kuu", CHANGES), None),
    (("thin", ROW, ("aa",), ("dd", "ff"), 1), (("bb", "cc"), (("aa", "bb", "cc", "dd"),))),
    (("thin", ABOUT, ("aa",), ("hh",), 2), (("bb",), (("aa", "bb", "cc", "ee", "hh"), ("aa", "dd", "ff", "gg", "hh")))),
    (("fate", ROW, ("bb",), ("ee",), "aa", "surely"), (
        ("aa", "cc"), (("bb", "cc", "dd", "ee"),), (("bb", "aa"), ("bb", "cc", "dd", "ee")))),
    (("fate", ROW, ("bb",), ("ee",), "ff", "not"), (
        ("aa", "cc"), (("bb", "cc", "dd", "ee"),), (("ff", "ee"), ("bb", "cc", "dd", "ee")))),
    (("fate", ROW, ("aa",), ("dd",), "bb", "may"), (("bb",), (), (("aa", "bb", "cc", "dd"),))),
    (("plan", ROW, ("aa",), ("ee", "ff"), 2), (
        ("cc", ("dd", (), ()), ("bb", (), ())), ("bb",), (("aa", "bb", "cc", "dd", "ee"),))),
)


class Checking(unittest.TestCase):
    def takes(self, claim, paper):
        self.assertIs(holds(claim, paper), True, (claim, paper))

    def leaves(self, claim, paper):
        self.assertIs(holds(claim, paper), False, (claim, paper))


class TestOne(Checking):
    def test_rows(self):
        self.takes(("one", "ku", "ku", ()), ("ku",))
        self.takes(("one", "ku", "go", CHANGES), ("ku", "gu", "go"))
        self.takes(("one", "ku", "go", CHANGES), ("ku", "ko", "go"))
        self.takes(("one", "u", "o", CHANGES), ("u", "o"))
        self.takes(("one", "k", "g", CHANGES), ("k", "g"))

    def test_a_row_there_and_back_and_a_longer_one(self):
        self.takes(("one", "ku", "ku", CHANGES), ("ku", "gu", "ku"))
        self.takes(("one", "ku", "gu", CHANGES), ("ku", "ko", "go", "gu"))
        self.takes(("one", "ku", "ku", CHANGES), ("ku", "gu") * 500 + ("ku",))

    def test_a_row_that_jumps(self):
        self.leaves(("one", "ku", "go", CHANGES), ("ku", "go"))
        self.leaves(("one", "eee", "iie", CHANGES), ("eee", "iie"))
        self.leaves(("one", "ku", "mu", CHANGES), ("ku", "mu"))
        self.leaves(("one", "ku", "ku", CHANGES), ("ku", "ku"))
        self.leaves(("one", "ku", "gu", CHANGES), ("ku", "gu", "gu"))
        self.leaves(("one", "ku", "kuu", CHANGES), ("ku", "kuu"))
        self.leaves(("one", "kuu", "ku", CHANGES), ("kuu", "ku"))

    def test_a_row_that_begins_or_ends_elsewhere(self):
        self.leaves(("one", "ku", "go", CHANGES), ("gu", "go"))
        self.leaves(("one", "ku", "go", CHANGES), ("ku", "gu"))
        self.leaves(("one", "ku", "go", CHANGES), ("go", "gu", "ku"))
        self.leaves(("one", "ku", "ku", CHANGES), ("go",))
        self.leaves(("one", "ku", "ku", CHANGES), ())

    def test_a_change_at_the_wrong_place(self):
        self.takes(("one", "kak", "gak", CHANGES), ("kak", "gak"))
        self.leaves(("one", "kak", "kag", CHANGES), ("kak", "kag"))
        self.leaves(("one", "uku", "oku", CHANGES), ("uku", "oku"))
        self.takes(("one", "uku", "uko", CHANGES), ("uku", "uko"))
        self.leaves(("one", "akka", "akga", CHANGES), ("akka", "akga"))
        self.leaves(("one", "ku", "kg", CHANGES), ("ku", "kg"))
        self.takes(("one", "mem", "mim", CHANGES), ("mem", "mim"))

    def test_the_change_must_be_told(self):
        self.leaves(("one", "ku", "gu", ()), ("ku", "gu"))
        self.leaves(("one", "ku", "gu", CHANGES[:1]), ("ku", "gu"))
        self.takes(("one", "gu", "ku", CHANGES[1:2]), ("gu", "ku"))

    def test_parts_that_are_none(self):
        self.leaves(("one", "Ku", "Ku", CHANGES), ("Ku",))
        self.leaves(("one", "kukukukuk", "kukukukuk", CHANGES), ("kukukukuk",))
        self.leaves(("one", "", "", CHANGES), ("",))
        for changes in (None, [], [("k", "g", "first")], (("k", "k", "first"),), (("k", "g", "some"),),
                        CHANGES[:1] * 13, (("k", "g"),), (["k", "g", "first"],), (("kk", "g", "any"),)):
            self.leaves(("one", "ku", "ku", changes), ("ku",))
        self.takes(("one", "ku", "ku", CHANGES[:1] * 12), ("ku",))

    def test_against_the_words(self):
        chance = random.Random(50)
        words = ["".join(letters) for letters in itertools.product("aeu", repeat=2)]
        seen = {True: 0, False: 0}
        for _ in range(3000):
            changes = tuple((*chance.sample("aeu", 2), chance.choice(("first", "last", "any")))
                            for _ in range(chance.randint(0, 3)))
            row = tuple(chance.choice(words) for _ in range(chance.randint(1, 3)))
            taken = holds(("one", row[0], row[-1], changes), row)
            seen[taken] += 1
            self.assertEqual(taken, all(self.by_one(one, other, changes) for one, other in zip(row, row[1:])))
            self.assertTrue(not taken or are_one(row[0], row[-1], changes))
        self.assertGreater(min(seen.values()), 300)

    def by_one(self, word, other, changes):
        """Whether the other word is among all that one change makes of a word."""
        made = set()
        for one, two, where in changes:
            places = {"first": [0], "last": [len(word) - 1], "any": range(len(word))}[where]
            for place in places:
                for letter, turned in ((one, two), (two, one)):
                    if word[place] == letter:
                        made.add(word[:place] + turned + word[place + 1:])
        return other in made


class TestUnlike(Checking):
    def test_none_just_where_the_lengths_are_unlike(self):
        self.takes(("unlike", "ku", "kuu", CHANGES), None)
        self.takes(("unlike", "kuu", "ku", ()), None)
        self.leaves(("unlike", "ku", "mu", ()), None)
        self.leaves(("unlike", "ku", "ku", ()), None)
        self.leaves(("unlike", "ku", "muu", ()), (0, ("k",)))
        self.leaves(("unlike", "kuu", "mu", ()), (0, ("k",)))
        for paper in ((), False, 0, "", []):
            self.leaves(("unlike", "ku", "kuu", CHANGES), paper)

    def test_letters_out_of_which_no_change_leads(self):
        self.takes(("unlike", "ku", "mu", ()), (0, ("k",)))
        self.takes(("unlike", "ku", "mu", CHANGES), (0, ("g", "k")))
        self.leaves(("unlike", "ku", "mu", CHANGES), (0, ("k",)))
        self.leaves(("unlike", "gu", "mu", CHANGES), (0, ("g",)))
        # A change out of letters that the word's one never comes to leads out as well.
        self.leaves(("unlike", "ku", "mu", CHANGES), (0, ("e", "g", "k")))
        self.takes(("unlike", "ku", "mu", CHANGES), (0, ("e", "g", "i", "k")))

    def test_changes_at_other_places_do_not_lead_out(self):
        self.takes(("unlike", "kak", "kam", CHANGES), (2, ("k",)))
        self.leaves(("unlike", "kak", "mak", CHANGES), (0, ("k",)))
        self.takes(("unlike", "uku", "mku", CHANGES), (0, ("u",)))
        self.leaves(("unlike", "uku", "ukm", CHANGES), (2, ("u",)))
        self.leaves(("unlike", "mem", "mam", CHANGES), (1, ("e",)))
        self.takes(("unlike", "mem", "mam", CHANGES), (1, ("e", "i")))
        self.leaves(("unlike", "k", "m", CHANGES), (0, ("k",)))
        self.leaves(("unlike", "u", "m", CHANGES), (0, ("u",)))

    def test_the_letter_of_the_word_is_among_them_and_the_others_is_not(self):
        self.leaves(("unlike", "ku", "mu", ()), (0, ("k", "m")))
        self.leaves(("unlike", "ku", "mu", ()), (0, ("m",)))
        self.leaves(("unlike", "ku", "mu", ()), (0, ("x",)))
        self.leaves(("unlike", "ku", "mu", ()), (0, ()))
        self.leaves(("unlike", "ku", "mu", ()), (1, ("u",)))
        self.leaves(("unlike", "ku", "ku", ()), (0, ("k",)))
        self.takes(("unlike", "ku", "mu", ()), (0, ("a", "k", "l", "z")))

    def test_letters_rise(self):
        self.leaves(("unlike", "ku", "mu", CHANGES), (0, ("k", "g")))
        self.leaves(("unlike", "ku", "mu", ()), (0, ("k", "k")))
        self.leaves(("unlike", "ku", "mu", ()), (0, ("k", "kk")))
        self.leaves(("unlike", "ku", "mu", ()), (0, ("K", "k")))
        self.leaves(("unlike", "ku", "mu", ()), (0, "k"))
        self.leaves(("unlike", "ku", "mu", ()), (0, ["k"]))

    def test_the_place(self):
        self.takes(("unlike", "umk", "umb", ()), (2, ("k",)))
        self.leaves(("unlike", "umk", "umb", ()), (-1, ("k",)))
        self.leaves(("unlike", "umk", "umb", ()), (3, ("k",)))
        self.leaves(("unlike", "umk", "umb", ()), (10 ** 60, ("k",)))
        self.leaves(("unlike", "uk", "ub", ()), (True, ("k",)))
        self.leaves(("unlike", "ku", "bu", ()), (False, ("k",)))
        self.leaves(("unlike", "ku", "bu", ()), ("0", ("k",)))
        self.leaves(("unlike", "ku", "bu", ()), (None, ("k",)))
        for paper in ((0,), (0, ("k",), ()), [0, ("k",)]):
            self.leaves(("unlike", "ku", "bu", ()), paper)

    def test_parts_that_are_none(self):
        for changes in (None, [], (("k", "k", "first"),), CHANGES[:1] * 13):
            self.leaves(("unlike", "ku", "mu", changes), (0, ("k",)))
            self.leaves(("unlike", "ku", "muu", changes), None)
        self.leaves(("unlike", "ku", "", ()), None)
        self.leaves(("unlike", "ku", "Muu", ()), None)
        self.leaves(("unlike", 3, "muu", ()), None)

    def test_what_is_taken_is_true(self):
        chance = random.Random(51)
        words = ["".join(letters) for letters in itertools.product("aeu", repeat=2)]
        taken = 0
        for _ in range(3000):
            changes = tuple((*chance.sample("aeu", 2), chance.choice(("first", "last", "any")))
                            for _ in range(chance.randint(0, 2)))
            word, other = chance.choice(words), chance.choice(words)
            letters = tuple(sorted(chance.sample("aeux", chance.randint(0, 3))))
            if holds(("unlike", word, other, changes), (chance.randint(-1, 2), letters)):
                taken += 1
                self.assertFalse(are_one(word, other, changes))
        self.assertGreater(taken, 100)


class TestThin(Checking):
    def test_rows_that_keep_all(self):
        self.takes(("thin", (("aa",),), (), (), 0), ((), ()))
        self.takes(("thin", (("aa",),), (), (), 0), (("aa",), ()))
        self.takes(("thin", (("aa",),), ("aa",), (), 0), ((), ()))
        self.takes(("thin", (("aa", "bb"),), ("aa",), ("bb",), 1), ((), (("aa", "bb"),)))
        self.takes(("thin", (("aa", "bb"),), ("bb",), ("aa",), 1), ((), (("bb", "aa"),)))
        way = ("aa", "bb", "cc", "dd")
        for filling in ((), ("bb",), ("bb", "cc")):
            self.takes(("thin", ROW, ("aa",), ("dd", "ff"), 1), (filling, (way,)))

    def test_rows_that_are_no_lands(self):
        for rows in ((), ((),), ((None,),), ((None, None), (None, None)), (("aa", "aa"),), (("aa",), ("aa",)),
                     (("aa", "bb"), ("cc",)), (("aa", "Bb"),), (("aa", 3),), (("aa",) + (None,) * 6,),
                     (("aa",),) + ((None,),) * 6, ("aa",), [("aa",)], (["aa"],), Land((("aa",),)), None, "aa",
                     (("aa", ""),), (("aa", "-"),), (("aa", ["bb"]),), (("aa", {}),), (("aa", False),)):
            self.leaves(("thin", rows, (), (), 0), ((), ()))
        self.takes(("thin", (("aa",) + (None,) * 5,), (), (), 0), ((), ()))
        self.takes(("thin", (("aa",),) + ((None,),) * 5, (), (), 0), ((), ()))

    def test_those_asked(self):
        self.takes(("thin", SQUARE, ("aa", "bb"), ("ii",), 2), (
            ("cc", "dd", "ee", "ff", "gg", "hh"), (("bb", "cc", "ff", "ii"), ("aa", "dd", "gg", "hh", "ii"))))
        whole = (("aa", "bb"),)
        self.takes(("thin", whole, ("aa", "bb"), (), 0), ((), ()))
        self.takes(("thin", whole, (), ("aa", "bb"), 0), ((), ()))
        for wrong in (("bb", "aa"), ("aa", "aa"), ("aa", "zz"), ("zz",), ("aa", None), ("aa", "bb", "bb"), ["aa"],
                      "aa", {"aa"}, None, (("aa",),), ("Aa",)):
            self.leaves(("thin", whole, wrong, (), 0), ((), ()))
            self.leaves(("thin", whole, (), wrong, 0), ((), ()))
        self.leaves(("thin", whole, ("aa", "bb"), ("bb",), 0), ((), ()))
        self.leaves(("thin", whole, ("aa",), ("aa",), 0), ((), ()))
        self.leaves(("thin", ABOUT, (None,), (), 0), ((), ()))

    def test_how(self):
        paper = ((), (("aa", "bb"),))
        self.takes(("thin", (("aa", "bb"),), ("aa",), ("bb",), 1), paper)
        for how in (True, 0, 2, -1, "1", None, (1,), [1], 10 ** 60):
            self.leaves(("thin", (("aa", "bb"),), ("aa",), ("bb",), how), paper)
        self.leaves(("thin", (("aa", "bb"),), ("aa",), (), False), (("bb",), ()))

    def test_the_filling(self):
        claim = ("thin", ROW, ("aa",), ("dd", "ff"), 1)
        ways = (("aa", "bb", "cc", "dd"),)
        for filling in (
            ("cc",), ("ee",), ("bb", "ee"), ("bb", "cc", "ee"),
            ("aa",), ("aa", "bb"), ("bb", "cc", "dd"), ("bb", "ff"),
            ("cc", "bb"), ("bb", "bb"), ("bb", "zz"), ("bb", None), ["bb"], "bb", None, ("Bb",), {"bb": 1}, (("bb",),),
        ):
            self.leaves(claim, (filling, ways))

    def test_a_filling_longer_than_thin(self):
        self.leaves(("thin", ABOUT, ("aa",), (), 2), (("ee", "gg", "hh"), ()))
        self.leaves(("thin", ABOUT, ("aa",), (), 2), ((), ()))
        self.leaves(("thin", ABOUT, ("aa",), (), 0), ((), ()))
        self.takes(("thin", ABOUT, ("aa",), (), 0), (("bb", "cc", "dd", "ee", "ff", "gg", "hh"), ()))

    def test_lakes_and_the_outside_do_not_count(self):
        self.takes(("thin", (("aa", None, "bb"),), ("aa",), ("bb",), 0), ((), ()))
        self.takes(("thin", (("aa", None), (None, "bb")), ("aa",), ("bb",), 0), ((), ()))

    def test_ways_over_a_lake_or_where_none_are_neighbours(self):
        rows = (("aa", None, "bb"),)
        self.leaves(("thin", rows, ("aa",), ("bb",), 1), ((), (("aa", "bb"),)))
        self.leaves(("thin", rows, ("aa",), ("bb",), 1), ((), (("aa", None, "bb"),)))
        claim = ("thin", ROW, ("aa",), ("dd", "ff"), 1)
        for way in (("aa", "cc", "dd"), ("aa", "dd"), ("aa", "bb", "bb", "cc", "dd"), ("aa", "bb", "cc", "zz", "dd")):
            self.leaves(claim, ((), (way,)))
        # Neither over a corner nor from the end of a row to the next one.
        self.leaves(("thin", (("aa", "bb"), ("cc", "dd")), ("aa",), ("dd",), 2), ((), (("aa", "dd"), ("aa", "bb", "dd"))))
        self.leaves(("thin", (("aa", "bb"), ("cc", "dd")), ("bb",), ("cc",), 2), ((), (("bb", "cc"), ("bb", "aa", "cc"))))

    def test_ways_through_an_asked_one(self):
        rows = (("aa", "bb", "cc"),)
        self.leaves(("thin", rows, ("aa", "bb"), ("cc",), 1), ((), (("aa", "bb", "cc"),)))
        self.leaves(("thin", rows, ("aa",), ("bb", "cc"), 1), ((), (("aa", "bb", "cc"),)))
        self.takes(("thin", rows, ("aa", "bb"), ("cc",), 1), ((), (("bb", "cc"),)))
        self.leaves(("thin", ROW, ("aa",), ("bb", "ee"), 2), ((), (("aa", "bb"), ("aa", "bb", "cc", "dd", "ee"))))

    def test_ways_with_a_border_twice(self):
        claim = ("thin", ABOUT, ("aa",), ("hh",), 2)
        one, other = ("aa", "bb", "cc", "ee", "hh"), ("aa", "dd", "ff", "gg", "hh")
        self.takes(claim, ((), (one, other)))
        self.takes(claim, ((), (other, one)))
        self.leaves(claim, ((), (one, one)))
        self.leaves(claim, ((), (one, ("aa", "dd", "ff", "dd", "ff", "gg", "hh"))))
        self.leaves(claim, ((), (one, ("aa", "dd", "ff", "gg", "ff", "gg", "hh"))))
        three = (("aa", "bb", "cc"), ("dd", "ee", "ff"))
        self.leaves(("thin", three, ("aa",), ("cc",), 2), ((), (("aa", "bb", "cc"), ("aa", "dd", "ee", "bb", "cc"))))
        # Both ways over the border of bb and ee, the one against the other.
        four = (("aa", "bb", "cc"), ("dd", "ee", "ff"), ("gg", "hh", "ii"))
        claim = ("thin", four, ("aa",), ("cc",), 2)
        self.takes(claim, ((), (("aa", "bb", "cc"), ("aa", "dd", "ee", "ff", "cc"))))
        self.leaves(("thin", three, ("aa", "dd"), ("cc", "ff"), 2), (
            (), (("aa", "bb", "ee", "ff"), ("dd", "ee", "bb", "cc"))))
        self.takes(("thin", three, ("aa", "dd"), ("cc", "ff"), 2), ((), (("aa", "bb", "cc"), ("dd", "ee", "ff"))))

    def test_a_way_that_comes_to_a_village_twice_by_unlike_borders(self):
        way = ("dd", "ee", "bb", "cc", "ff", "ee", "hh")
        self.takes(("thin", SQUARE[:2] + ((None, "hh", None),), ("dd",), ("hh",), 1), (
            ("aa", "bb", "cc", "ee", "ff"), (way,)))

    def test_ways_turned_about(self):
        claim = ("thin", ROW, ("aa",), ("dd", "ff"), 1)
        self.leaves(claim, ((), (("dd", "cc", "bb", "aa"),)))
        self.leaves(claim, ((), (("aa", "bb", "cc"),)))
        self.leaves(claim, ((), (("bb", "cc", "dd"),)))
        self.leaves(claim, ((), (("bb", "cc"),)))
        self.leaves(claim, ((), (("aa", "bb", "aa"),)))
        self.leaves(claim, ((), ((),)))
        self.leaves(claim, ((), (("aa",),)))

    def test_too_few_and_too_many_ways(self):
        claim = ("thin", ABOUT, ("aa",), ("hh",), 2)
        one, other = ("aa", "bb", "cc", "ee", "hh"), ("aa", "dd", "ff", "gg", "hh")
        for ways in ((), (one,), (one, other, one), (one, other, ()), (one, other, None)):
            self.leaves(claim, ((), ways))
        self.leaves(("thin", ABOUT, ("aa",), ("hh",), 1), ((), (one,)))
        self.leaves(("thin", ABOUT, ("aa",), ("hh",), 1), ((), (one, other)))
        self.leaves(("thin", ABOUT, ("aa",), ("hh",), 3), ((), (one, other)))
        # A filling is as long as HOW, but there are fewer ways.
        self.leaves(("thin", ROW, ("aa",), ("dd", "ff"), 3), (("bb", "ee"), (("aa", "bb", "cc", "dd"),)))

    def test_the_paper_has_two_parts(self):
        claim, (filling, ways) = RIGHT[3]
        for paper in ((filling,), (filling, ways, ()), [filling, ways], {filling: ways}, None, (), (ways, filling)):
            self.leaves(claim, paper)


class TestFate(Checking):
    def test_surely_and_not(self):
        way = ("bb", "cc", "dd", "ee")
        surely = ("fate", ROW, ("bb",), ("ee",), "aa", "surely")
        self.takes(surely, (("aa",), (way,), (("bb", "aa"), way)))
        self.takes(surely, (("aa", "cc"), (way,), (way, ("bb", "aa"))))
        never = ("fate", ROW, ("bb",), ("ee",), "ff", "not")
        self.takes(never, (("aa",), (way,), (("ff", "ee"), way)))
        self.leaves(surely[:5] + ("not",), (("aa",), (way,), (("bb", "aa"), way)))
        self.leaves(never[:5] + ("surely",), (("aa",), (way,), (("ff", "ee"), way)))

    def test_with_as_many_ways_as_there_are(self):
        way = ("bb", "cc", "dd", "ee")
        self.leaves(("fate", ROW, ("bb",), ("ee",), "aa", "surely"), (("aa",), (way,), (way,)))
        self.leaves(("fate", ROW, ("bb",), ("ee",), "aa", "surely"), (("aa",), (way,), (("bb", "aa"),)))
        self.leaves(("fate", ROW, ("bb",), ("ee",), "aa", "surely"), (("aa",), (way,), ()))
        # cc may have the word: asked, too, it leaves as many ways as there were.
        self.leaves(("fate", ROW, ("bb",), ("ee",), "cc", "surely"), (("aa",), (way,), (("bb", "cc"),)))
        self.leaves(("fate", ROW, ("bb",), ("ee",), "cc", "not"), (("aa",), (way,), (("cc", "dd", "ee"),)))

    def test_more_by_two(self):
        rows = (("aa", "bb", "cc"), (None, "dd", None))
        claim = ("fate", rows, ("aa", "cc", "dd"), (), "bb", "surely")
        self.takes(claim, (("bb",), (), (("aa", "bb"), ("cc", "bb"), ("dd", "bb"))))
        self.takes(claim, (("bb",), (), (("aa", "bb"),)))
        self.leaves(claim, ((), (), (("aa", "bb"), ("cc", "bb"), ("dd", "bb"))))

    def test_more_ways_end_at_the_village_and_do_not_go_through_it(self):
        claim = ("fate", ROW, ("cc",), ("ff",), "bb", "surely")
        way = ("cc", "dd", "ee", "ff")
        self.takes(claim, (("aa", "bb"), (way,), (("cc", "bb"), way)))
        self.leaves(claim, (("aa", "bb"), (way,), (("bb", "cc"), way)))
        rows = (("aa", "bb", "cc"), ("dd", "ee", "ff"))
        claim = ("fate", rows, ("aa", "cc"), ("dd",), "bb", "surely")
        ways = (("aa", "dd"), ("cc", "ff", "ee", "dd"))
        self.leaves(claim, (("bb", "ee", "ff"), ways, (("aa", "dd"), ("cc", "bb", "ee", "dd"), ("aa", "bb"))))

    def test_more_ways_are_ways(self):
        claim = ("fate", ROW, ("bb",), ("ee",), "aa", "surely")
        way = ("bb", "cc", "dd", "ee")
        for more in ((way, way), (("bb", "aa"), ("bb", "aa")), (("bb", "aa"), way[1:]), (("bb", "aa"), way[::-1]),
                     (("bb", "aa"), ("bb", "cc", "ee")), [("bb", "aa"), way], (("bb", "aa"), list(way)), 3, None, "aa",
                     (("bb", "aa"), way, way), (("bb", "aa"), ("bb", "cc", "bb", "cc", "dd", "ee"))):
            self.leaves(claim, (("aa",), (way,), more))

    def test_ways_and_filling_are_thin_as_there(self):
        claim = ("fate", ROW, ("bb",), ("ee",), "aa", "surely")
        way = ("bb", "cc", "dd", "ee")
        more = (("bb", "aa"), way)
        for filling in ((), ("aa", "dd"), ("bb",), ("cc", "aa"), ["aa"], ("aa", "ff"), None):
            self.leaves(claim, (filling, (way,), more))
        for ways in ((), (way, way), (way[::-1],), way, [way], None):
            self.leaves(claim, (("aa",), ways, more))

    def test_may(self):
        claim = ("fate", ROW, ("aa",), ("dd",), "bb", "may")
        way = ("aa", "bb", "cc", "dd")
        self.takes(claim, (("bb",), (), (way,)))
        self.takes(claim, (("bb", "cc"), (), (way,)))
        self.leaves(claim, ((), ("bb",), (way,)))
        self.leaves(claim, (("bb",), ("bb",), (way,)))
        self.leaves(claim, (("bb",), ("bb", "cc"), (way,)))
        self.leaves(claim, ((), (), (way,)))
        self.leaves(claim, (("bb", "ee"), (), (way,)))
        self.leaves(claim, (("bb",), ("ee",), (way,)))
        self.leaves(claim, (("bb",), ("cc",), (way,)))
        self.leaves(claim, (("bb",), ("aa",), (way,)))
        for ways in ((), (way, way), (way[::-1],), way, [way], None, (("aa", "bb", "cc"),)):
            self.leaves(claim, (("bb",), (), ways))
        # Both are as long as each other, but not thin.
        longer = ("fate", ROW, ("aa",), ("dd",), "ee", "may")
        self.leaves(longer, (("bb", "ee"), ("cc",), (way,)))

    def test_may_with_the_paper_of_another_fate_and_back(self):
        for claim, paper in RIGHT[5:8]:
            for fate in ("surely", "may", "not", "has", "", "May", None, 3, ["may"], ("may",), b"may"):
                if fate != claim[5]:
                    self.leaves(claim[:5] + (fate,), paper)

    def test_of_a_village_that_was_asked_or_is_not_there(self):
        way = ("bb", "cc", "dd", "ee")
        for name in ("bb", "ee", "zz", None, 3, ["aa"], "Aa"):
            self.leaves(("fate", ROW, ("bb",), ("ee",), name, "surely"), (("aa",), (way,), (("bb", "aa"), way)))
            self.leaves(("fate", ROW, ("bb",), ("ee",), name, "not"), (("aa",), (way,), (("bb", "aa"), way)))
            self.leaves(("fate", ROW, ("bb",), ("ee",), name, "may"), (("aa", "cc"), ("aa",), (way,)))
        self.leaves(("fate", (("aa", "bb"),), ("aa",), (), "aa", "surely"), (("bb",), (), (("aa", "aa"),)))
        self.leaves(("fate", (("aa", "bb"),), ("aa",), (), "aa", "surely"), (("bb",), (), (("aa",),)))

    def test_the_paper_has_three_parts(self):
        for claim, paper in RIGHT[5:8]:
            for wrong in (paper[:2], paper + ((),), list(paper), (), None, paper[::-1]):
                self.leaves(claim, wrong)


class TestPlan(Checking):
    def setUp(self):
        self.claim = ("plan", ROW, ("aa",), ("ee", "ff"), 2)
        self.thin = (("bb",), (("aa", "bb", "cc", "dd", "ee"),))
        self.halves = ("cc", ("dd", (), ()), ("bb", (), ()))

    def with_many(self, many):
        return self.claim[:4] + (many,)

    def test_plans(self):
        self.takes(self.claim, (self.halves, *self.thin))
        self.takes(self.claim, (self.halves, (), self.thin[1]))
        in_turn = ("bb", ("cc", ("dd", (), ()), ()), ())
        self.takes(self.with_many(3), (in_turn, *self.thin))
        self.takes(("plan", (("aa",),), ("aa",), (), 0), ((), (), ()))
        self.takes(("plan", (("aa",),), (), (), 1), (("aa", (), ()), (), ()))

    def test_one_that_asks_once_too_often(self):
        in_turn = ("bb", ("cc", ("dd", (), ()), ()), ())
        self.leaves(self.claim, (in_turn, *self.thin))
        self.leaves(self.with_many(1), (self.halves, *self.thin))
        self.leaves(self.with_many(0), (self.halves, *self.thin))
        # To ask where one is left is no plan, however many asks there may be.
        self.leaves(self.with_many(9), (("cc", ("dd", ("bb", (), None), ()), ("bb", (), ())), *self.thin))
        self.leaves(("plan", (("aa", "bb"),), ("aa",), (), 1), (("bb", (), None), ("bb",), ()))
        self.takes(("plan", (("aa", "bb"),), ("aa",), (), 1), ((), ("bb",), ()))

    def test_many(self):
        for many in (2, 3, 6, 7, 10 ** 60):
            self.takes(self.with_many(many), (self.halves, *self.thin))
        for many in (1, 0, -1, True, "2", None, (2,), [2]):
            self.leaves(self.with_many(many), (self.halves, *self.thin))
        self.leaves(("plan", (("aa",),), ("aa",), (), -1), ((), (), ()))
        self.leaves(("plan", (("aa",),), ("aa",), (), False), ((), (), ()))
        self.leaves(("plan", (("aa",),), (), (), True), (("aa", (), ()), (), ()))

    def test_one_that_leaves_two_unknown(self):
        for plan in ((), ("cc", (), ("bb", (), ())), ("cc", ("dd", (), ()), ()), ("bb", (), ())):
            self.leaves(self.claim, (plan, *self.thin))

    def test_one_that_asks_an_asked_one_or_one_not_there(self):
        for name in ("aa", "ee", "ff", "zz", None, "Cc", 3, ["cc"], ("cc",)):
            self.leaves(self.with_many(9), ((name, *self.halves[1:]), *self.thin))
            self.leaves(self.with_many(9), ((name, self.halves, None), *self.thin))
            self.leaves(self.with_many(9), ((name, None, self.halves), *self.thin))

    def test_none_where_nothing_is_left_alone(self):
        rows = (("aa", "bb", "cc", "dd"),)
        # aa has it, in each thin filling, with bb, which was asked; cc may have it or not.
        claim = ("plan", rows, ("bb",), ("dd",), 2)
        thin = (("aa",), (("bb", "cc", "dd"),))
        self.takes(claim, (("cc", (), ()), *thin))
        self.takes(claim, (("aa", ("cc", (), ()), None), *thin))
        self.leaves(claim, (("aa", ("cc", (), ()), ()), *thin))
        self.leaves(claim, (("aa", ("cc", (), ()), ("cc", (), ())), *thin))
        self.leaves(claim, (("aa", ("cc", (), ()), ("cc", None, None)), *thin))
        self.leaves(claim, (("aa", None, ("cc", (), ())), *thin))
        self.leaves(claim, (("cc", None, ()), *thin))
        self.leaves(claim, (("cc", (), None), *thin))
        self.leaves(claim, (None, *thin))
        for wrong in (False, 0, [], "", {}):
            self.leaves(claim, (("cc", (), wrong), *thin))
            self.leaves(claim, (("aa", ("cc", (), ()), wrong), *thin))

    def test_villages_that_never_have_the_word_may_be_asked(self):
        claim = ("plan", ROW, ("bb",), ("dd",), 3)
        thin = (("aa",), (("bb", "cc", "dd"),))
        self.takes(claim, (("ff", None, ("aa", ("cc", (), ()), None)), *thin))
        self.leaves(claim, (("ff", (), ("aa", ("cc", (), ()), None)), *thin))
        self.leaves(claim[:4] + (2,), (("ff", None, ("aa", ("cc", (), ()), None)), *thin))

    def test_a_village_asked_twice(self):
        twice = ("cc", ("cc", ("dd", (), ()), None), ("bb", (), ()))
        self.takes(self.with_many(3), (twice, *self.thin))
        self.leaves(self.claim, (twice, *self.thin))
        self.leaves(self.with_many(3), (("cc", ("cc", ("dd", (), ()), ()), ("bb", (), ())), *self.thin))
        twice = ("cc", ("dd", (), ()), ("cc", None, ("bb", (), ())))
        self.takes(self.with_many(3), (twice, *self.thin))
        self.leaves(self.with_many(3), (("cc", ("dd", (), ()), ("cc", (), ("bb", (), ()))), *self.thin))
        self.leaves(self.with_many(3), (("cc", ("dd", ("dd", (), None), ()), ("bb", (), ())), *self.thin))

    def test_a_village_asked_again_and_again(self):
        deep = ("dd", (), ())
        for _ in range(2000):
            deep = ("cc", deep, None)
        plan = ("cc", deep, ("bb", (), ()))
        self.takes(self.with_many(2002), (plan, *self.thin))
        self.leaves(self.with_many(2001), (plan, *self.thin))

    def test_six_and_seven_villages_that_may_have_the_word(self):
        six = (("aa", None, "bb", None, "cc", None), (None, "dd", None, "ee", None, "ff"))
        plan = ()
        for name in ("aa", "bb", "cc", "dd", "ee", "ff"):
            plan = (name, plan, plan)
        self.takes(("plan", six, (), (), 6), (plan, (), ()))
        self.leaves(("plan", six, (), (), 5), (plan, (), ()))
        seven = six + (("gg", None, None, None, None, None),)
        self.leaves(("plan", seven, (), (), 7), (("gg", plan, plan), (), ()))
        self.takes(("plan", seven, ("gg",), (), 6), (plan, (), ()))
        self.takes(("plan", seven, (), ("gg",), 6), (plan, (), ()))
        row = (("aa", "bb", "cc", "dd", "ee", "ff"), (None, None, None, None, None, "gg"),
               (None, None, None, "jj", "ii", "hh"))
        way = ("aa", "bb", "cc", "dd", "ee", "ff", "gg", "hh", "ii")
        halves = ("ee", ("gg", ("hh", (), ()), ("ff", (), ())), ("cc", ("dd", (), ()), ("bb", (), ())))
        self.leaves(("plan", row, ("aa",), ("ii",), 9), (halves, (), (way,)))
        halves = ("dd", ("ff", ("gg", (), ()), ("ee", (), ())), ("bb", ("cc", (), ()), ()))
        self.takes(("plan", row, ("aa",), ("hh",), 3), (halves, (), (way[:-1],)))

    def test_filling_and_ways_are_thin_as_there(self):
        for filling in (("cc",), ("aa",), ("cc", "bb"), None, ["bb"], ("bb", "dd")):
            self.leaves(self.claim, (self.halves, filling, self.thin[1]))
        way = self.thin[1][0]
        for ways in ((), (way, way), (way[::-1],), way, [way], None):
            self.leaves(self.claim, (self.halves, self.thin[0], ways))

    def test_the_paper_has_three_parts(self):
        paper = (self.halves, *self.thin)
        for wrong in (paper[:2], paper + ((),), list(paper), (), None, paper[::-1], self.halves):
            self.leaves(self.claim, wrong)

    def test_plans_that_are_no_plans(self):
        for plan in (("cc",), ("cc", ("dd", (), ())), self.halves + ((),), list(self.halves), "cc", 3, None,
                     ("cc", ["dd", (), ()], ("bb", (), ())), ("cc", ("dd", (), []), ("bb", (), ())),
                     ("cc", ("dd", (), ""), ("bb", (), ()))):
            self.leaves(self.with_many(9), (plan, *self.thin))


class TestAnyKind(Checking):
    def test_what_keeps_all_is_taken(self):
        for claim, paper in RIGHT:
            self.takes(claim, paper)
            self.assertIs(holds(paper=paper, claim=claim), True)
        self.assertEqual(list(inspect.signature(holds).parameters), ["claim", "paper"])

    def test_claims_of_any_kind(self):
        for thing in ANY + (None, 0, 1, (), "one", "thin"):
            for paper in ANY + (None, (), "one") + tuple(paper for claim, paper in RIGHT):
                self.leaves(thing, paper)

    def test_papers_of_any_kind(self):
        for claim, paper in RIGHT:
            for thing in ANY + (0, 1) + (() if paper is None else (None, ())):
                self.leaves(claim, thing)

    def test_each_part_of_any_kind(self):
        for claim, paper in RIGHT:
            for thing in ANY:
                for made in spoilt(claim, thing):
                    # A plan may take more asks than it needs.
                    if not (claim[0] == "plan" and isinstance(made, tuple) and made[:4] == claim[:4]):
                        self.leaves(made, paper)
                for made in spoilt(paper, thing):
                    self.leaves(claim, made)

    def test_lists_for_tuples(self):
        for claim, paper in RIGHT:
            for made in with_lists(claim):
                self.leaves(made, paper)
            for made in with_lists(paper):
                self.leaves(claim, made)

    def test_truths_for_numbers(self):
        made = 0
        for claim, paper in RIGHT + (
            (("unlike", "ku", "mu", ()), (0, ("k",))), (("unlike", "ku", "ki", ()), (1, ("u",))),
            (("thin", (("aa",),), (), (), 0), ((), ())), (("plan", (("aa",),), (), (), 1), (("aa", (), ()), (), ())),
            (("plan", (("aa",),), ("aa",), (), 0), ((), (), ())),
        ):
            self.takes(claim, paper)
            for wrong in with_truths(claim):
                self.leaves(wrong, paper)
                made += 1
            for wrong in with_truths(paper):
                self.leaves(claim, wrong)
                made += 1
        self.assertGreaterEqual(made, 5)

    def test_a_part_more_or_less(self):
        for claim, paper in RIGHT:
            for at in range(len(claim)):
                self.leaves(claim[:at] + claim[at + 1:], paper)
                self.leaves(claim[:at] + (None,) + claim[at:], paper)
            self.leaves(claim + ((),), paper)
            self.leaves(claim[:1], paper)
            self.leaves(claim[1:], paper)

    def test_other_words_first(self):
        for claim, paper in RIGHT:
            for word in ("one", "unlike", "thin", "fate", "plan", "", "ONE", "Thin", "zero", None, 3, b"one", ["one"]):
                if word != claim[0]:
                    self.leaves((word, *claim[1:]), paper)

    def test_the_changes_of_a_claim_are_a_tuple(self):
        for claim, paper in RIGHT[:3]:
            self.leaves(claim[:3] + (None,), paper)
            self.leaves(claim[:3], paper)

    def test_papers_of_one_another(self):
        for claim, paper in RIGHT:
            for other, wrong in RIGHT:
                if wrong != paper:
                    self.leaves(claim, wrong)

    def test_what_is_handed_in_stays_as_it_was(self):
        for claim, paper in RIGHT:
            before = repr((claim, paper))
            for _ in range(2):
                self.takes(claim, paper)
                self.assertEqual(repr((claim, paper)), before)
        wrong = ["one", "ku", "ku", [("k", "g", "first")]]
        self.leaves(wrong, ["ku"])
        self.leaves(tuple(wrong), ["ku"])
        self.assertEqual(wrong, ["one", "ku", "ku", [("k", "g", "first")]])


if __name__ == "__main__":
    unittest.main()
