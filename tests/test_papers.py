import inspect
import itertools
import random
import unittest

from tests.helper import KINDS, OWN, drawn_map, gathering_of, line_length, refused, some_rows, thin_fillings
from wordlines.asking import asks_needed, fillings
from wordlines.checker import holds
from wordlines.errors import NoChanges, NoMap, NoName, NoWord, TooMany
from wordlines.maps import WordMap
from wordlines.papers import paper_fate, paper_plan, paper_thin, paper_words
from wordlines.thin import fate, thin
from wordlines.words import are_one, row_between

CHANGES = (("u", "o", "last"), ("k", "g", "first"), ("e", "i", "any"))
NO_MAPS = KINDS + OWN[:2] + (None, True, False, 0, 1, (), "cow")
NO_WORDS = KINDS + OWN + (None, True, False, 0, 1, ())

# Lands with lakes and without, all asked, none asked, some.
LANDS = (
    ("ku",), ("?",), ("ku mu",), ("mu mu",), ("ku ?",), ("? mu",), ("ku ? mu",), ("ku ? ? ? mu",), ("? ? ?", "? - ?"),
    ("ku - mu",), ("ku - ?", "? - mu"), ("ku ku -", "? ? mu", "ku - mu"), ("ku ? ku ? mu ?",), ("ku mu", "mu ku"),
    ("ku+mu ? mu", "? - ku"), ("ku ? ?", "? ? ?", "? mu mu"), ("? - ? - ?", "- ? - ? -", "ku - - - ?"),
    ("ku ? ? ?", "- - - ?", "- mu ? ?"), ("ku ? ? ? ?", "- - - - ?", "- - mu ? ?"),
)


def unasked(wordmap):
    return [name for name in wordmap.land.names() if name not in wordmap.asked()]


def lacking(wordmap, word):
    return tuple(name for name in wordmap.asked() if name not in wordmap.have(word))


class TestWords(unittest.TestCase):
    def look_at(self, word, other, changes):
        claim, paper = paper_words(word, other, changes)
        known = () if changes is None else changes
        self.assertEqual(claim, ("one" if are_one(word, other, known) else "unlike", word, other, known))
        self.assertIs(holds(claim, paper), True)
        self.assertIs(type(claim), tuple)
        self.assertEqual(paper_words(word, other, changes), (claim, paper))
        return paper

    def test_words_that_are_one(self):
        self.assertEqual(paper_words("ku", "ku"), (("one", "ku", "ku", ()), ("ku",)))
        self.assertEqual(self.look_at("ku", "gu", CHANGES), ("ku", "gu"))
        self.assertEqual(self.look_at("kemu", "gimo", CHANGES), row_between("kemu", "gimo", CHANGES))

    def test_words_that_are_unlike(self):
        self.assertEqual(paper_words("ku", "mu"), (("unlike", "ku", "mu", ()), (0, ("k",))))
        self.assertEqual(self.look_at("ku", "mu", CHANGES), (0, ("g", "k")))
        self.look_at("kek", "keg", CHANGES)
        self.look_at("ukeu", "okiu", CHANGES)

    def test_words_of_unlike_lengths(self):
        self.assertEqual(paper_words("ku", "kuu", CHANGES), (("unlike", "ku", "kuu", CHANGES), None))
        self.assertIs(self.look_at("kuu", "k", ()), None)

    def test_many_words(self):
        chance = random.Random(60)
        words = ["".join(letters) for many in (1, 2, 3) for letters in itertools.product("aeu", repeat=many)]
        seen = set()
        for _ in range(800):
            changes = tuple((*chance.sample("aeuz", 2), chance.choice(("first", "last", "any")))
                            for _ in range(chance.randint(0, 4)))
            word, other = chance.choice(words), chance.choice(words)
            self.look_at(word, other, chance.choice((changes, changes, None)))
            seen.add((are_one(word, other, changes), len(word) == len(other)))
        self.assertEqual(len(seen), 3)

    def test_by_place_and_by_name(self):
        told = paper_words(changes=CHANGES, other="gu", word="ku")
        self.assertEqual(told, paper_words("ku", "gu", CHANGES))
        self.assertIs(type(told), tuple)
        self.assertEqual(len(told), 2)
        self.assertEqual(paper_words("ku", "gu", None), paper_words("ku", "gu"))
        self.assertEqual(paper_words("ku", "gu", ()), paper_words("ku", "gu"))
        self.assertEqual(list(inspect.signature(paper_words).parameters), ["word", "other", "changes"])

    def test_refused_as_the_question(self):
        for thing in NO_WORDS:
            self.assertIs(refused(self, NoWord, paper_words, thing, "ku").word, thing)
            self.assertIs(refused(self, NoWord, paper_words, "ku", thing, []).word, thing)
            self.assertIs(refused(self, NoWord, paper_words, thing, 3, []).word, thing)
        for thing in ([], False, "any", CHANGES * 5, 0, {}):
            self.assertIs(refused(self, NoChanges, paper_words, "ku", "kuu", thing).place, None)
            self.assertIs(refused(self, NoChanges, paper_words, "ku", "ku", thing).place, None)
        self.assertEqual(refused(self, NoChanges, paper_words, "ku", "mu", CHANGES + (("a", "a", "any"),)).place, 3)


class TestThin(unittest.TestCase):
    def look_at(self, wordmap, word):
        claim, paper = paper_thin(wordmap, word)
        self.assertEqual(claim, (
            "thin", wordmap.land.rows, wordmap.have(word), lacking(wordmap, word), thin(wordmap, word)[0]))
        self.assertIs(holds(claim, paper), True)
        self.assertEqual(paper_thin(wordmap, word), (claim, paper))

    def test_lands(self):
        for rows in LANDS:
            for word in ("ku", "mu", "xu"):
                self.look_at(drawn_map(*rows), word)

    def test_many_lands(self):
        chance = random.Random(61)
        for _ in range(60):
            self.look_at(drawn_map(*some_rows(chance, ("ku", "mu", "ku+mu", "?", "?", "?", "-"))), "ku")

    def test_by_the_meaning(self):
        wordmap = drawn_map("ku ? go mu", changes=CHANGES)
        claim, paper = paper_thin(wordmap, "ko")
        self.assertEqual(claim, ("thin", wordmap.land.rows, ("aa", "ac"), ("ad",), 1))
        self.assertEqual(paper, (("ab",), (("ac", "ad"),)))

    def test_by_place_and_by_name(self):
        wordmap = drawn_map("ku ? mu")
        self.assertEqual(paper_thin(word="ku", wordmap=wordmap), paper_thin(wordmap, "ku"))
        self.assertEqual(list(inspect.signature(paper_thin).parameters), ["wordmap", "word"])


class TestFate(unittest.TestCase):
    def look_at(self, wordmap, word):
        seen = set()
        for name in unasked(wordmap):
            claim, paper = paper_fate(wordmap, word, name)
            told = fate(wordmap, word, name)
            self.assertEqual(claim, ("fate", wordmap.land.rows, wordmap.have(word), lacking(wordmap, word), name, told))
            self.assertIs(holds(claim, paper), True)
            self.assertEqual(paper_fate(wordmap, word, name), (claim, paper))
            for other in {"surely", "may", "not", "has"} - {told}:
                self.assertIs(holds(claim[:5] + (other,), paper), False)
            seen.add(told)
        return seen

    def test_lands(self):
        seen = set()
        for rows in LANDS:
            for word in ("ku", "mu", "xu"):
                seen |= self.look_at(drawn_map(*rows), word)
        self.assertEqual(seen, {"surely", "may", "not"})

    def test_many_lands(self):
        chance = random.Random(62)
        for _ in range(25):
            self.look_at(drawn_map(*some_rows(chance, ("ku", "mu", "ku+mu", "?", "?", "?", "-"))), "ku")

    def test_of_a_village_that_was_asked(self):
        wordmap = drawn_map("ku ? mu", "ku+mu - ?")
        for word in ("ku", "mu", "xu"):
            for name in wordmap.asked():
                self.assertEqual(refused(self, NoName, paper_fate, wordmap, word, name).name, name)

    def test_of_what_is_no_village(self):
        for wordmap in (drawn_map("ku ?"), drawn_map("? ?")):
            for thing in NO_WORDS + ("zz", "ku", "a"):
                self.assertIs(refused(self, NoName, paper_fate, wordmap, "ku", thing).name, thing)

    def test_by_place_and_by_name(self):
        wordmap = drawn_map("ku ? mu")
        self.assertEqual(paper_fate(village="ab", word="ku", wordmap=wordmap), paper_fate(wordmap, "ku", "ab"))
        self.assertEqual(list(inspect.signature(paper_fate).parameters), ["wordmap", "word", "village"])


class TestPlan(unittest.TestCase):
    def look_at(self, wordmap, word):
        claim, paper = paper_plan(wordmap, word)
        many = asks_needed(wordmap, word)
        self.assertEqual(claim, ("plan", wordmap.land.rows, wordmap.have(word), lacking(wordmap, word), many))
        self.assertIs(holds(claim, paper), True)
        self.assertIs(holds(claim[:4] + (many - 1,), paper), False)
        self.assertEqual(paper_plan(wordmap, word), (claim, paper))
        return many

    def test_lands(self):
        seen = set()
        for rows in LANDS:
            for word in ("ku", "mu"):
                wordmap = drawn_map(*rows)
                many = [fate(wordmap, word, name) for name in unasked(wordmap)].count("may")
                if many <= 6:
                    seen.add(self.look_at(wordmap, word))
                else:
                    self.assertEqual(refused(self, TooMany, paper_plan, wordmap, word).many, many)
        self.assertLessEqual({0, 1, 2, 3, 6}, seen)

    def test_many_lands(self):
        chance = random.Random(63)
        seen = set()
        for _ in range(120):
            wordmap = drawn_map(*some_rows(chance, ("ku", "mu", "?", "?", "-")))
            many = [fate(wordmap, "ku", name) for name in unasked(wordmap)].count("may")
            if many <= 6:
                seen.add(self.look_at(wordmap, "ku"))
            else:
                self.assertEqual(refused(self, TooMany, paper_plan, wordmap, "ku").many, many)
        self.assertGreater(len(seen), 3)

    def test_too_many(self):
        wordmap = drawn_map("ku ? ? ? ? ?", "- - - - - ?", "- - - mu ? ?")
        self.assertEqual(refused(self, TooMany, paper_plan, wordmap, "ku").many, 8)

    def test_by_place_and_by_name(self):
        wordmap = drawn_map("ku ? mu")
        self.assertEqual(paper_plan(word="ku", wordmap=wordmap), paper_plan(wordmap, "ku"))
        self.assertEqual(list(inspect.signature(paper_plan).parameters), ["wordmap", "word"])


class TestRefusals(unittest.TestCase):
    def test_no_map(self):
        for thing in NO_MAPS:
            for call, rest in ((paper_thin, ("ku",)), (paper_thin, (3,)), (paper_fate, ("ku", "aa")),
                               (paper_fate, (3, 3)), (paper_plan, ("ku",)), (paper_plan, (3,))):
                self.assertEqual(refused(self, NoMap, call, thing, *rest).place, 0)

    def test_no_word(self):
        free = drawn_map("? ? ? ? ? ?", "? ? ? ? ? ?")
        for thing in NO_WORDS:
            for wordmap in (drawn_map("ku ? mu"), free):
                self.assertIs(refused(self, NoWord, paper_thin, wordmap, thing).word, thing)
                self.assertIs(refused(self, NoWord, paper_plan, wordmap, thing).word, thing)
                self.assertIs(refused(self, NoWord, paper_fate, wordmap, thing, "ab").word, thing)
                self.assertIs(refused(self, NoWord, paper_fate, wordmap, thing, 3).word, thing)

    def test_the_map_stays_as_it_was(self):
        gathering = gathering_of("ku ? mu", "? - ?")
        wordmap = WordMap(gathering, "cow")
        paper_thin(wordmap, "ku")
        paper_plan(wordmap, "ku")
        paper_fate(wordmap, "ku", "ab")
        self.assertEqual(wordmap, drawn_map("ku ? mu", "? - ?"))


def plan_holds(plan, left, free, asks):
    """Whether a plan knows each of the fillings left by so many asks, as the document says it."""
    if not left:
        return plan is None
    if len(left) == 1:
        return plan == ()
    if not isinstance(plan, tuple) or len(plan) != 3 or plan[0] not in free or asks < 1:
        return False
    return (plan_holds(plan[1], [filling for filling in left if plan[0] in filling], free, asks - 1)
            and plan_holds(plan[2], [filling for filling in left if plan[0] not in filling], free, asks - 1))


def some_plan(chance, names, depth):
    """A plan by chance, mostly a wrong one."""
    if depth == 0 or chance.random() < 0.2:
        return chance.choice(((), (), (), None))
    return (chance.choice(names), some_plan(chance, names, depth - 1), some_plan(chance, names, depth - 1))


class TestWhatIsTakenIsTrue(unittest.TestCase):
    """Papers by chance, against all fillings of small lands."""

    def some_map(self, chance):
        while True:
            wordmap = drawn_map(*some_rows(chance, ("ku", "mu", "?", "?", "?", "-"), 3))
            if len(unasked(wordmap)) <= 6:
                return wordmap

    def some_ways(self, chance, wordmap, word):
        """Ways by chance: steps from village to village, out of those that have the word."""
        ways = list(thin(wordmap, word)[1])
        for _ in range(chance.randint(0, 2)):
            way = [chance.choice(wordmap.land.names())]
            while chance.random() < 0.6 and wordmap.land.neighbours(way[-1]):
                way.append(chance.choice(wordmap.land.neighbours(way[-1])))
            ways.append(tuple(way))
        chance.shuffle(ways)
        return tuple(ways[:chance.randint(max(0, len(ways) - 2), len(ways))])

    def some_filling(self, chance, wordmap):
        free = unasked(wordmap)
        return tuple(sorted(chance.sample(free, chance.randint(0, len(free)))))

    def test_thin_and_fate(self):
        chance = random.Random(64)
        taken = {"thin": 0, "surely": 0, "may": 0, "not": 0}
        for _ in range(2500):
            wordmap = self.some_map(chance)
            told = thin_fillings(wordmap, "ku")
            asked = (wordmap.land.rows, wordmap.have("ku"), lacking(wordmap, "ku"))
            filling, other = self.some_filling(chance, wordmap), self.some_filling(chance, wordmap)
            ways = self.some_ways(chance, wordmap, "ku")
            if holds(("thin", *asked, len(ways)), (filling, ways)):
                taken["thin"] += 1
                self.assertIn(filling, told)
                self.assertEqual(line_length(wordmap, "ku", told[0]), len(ways))
            for name in unasked(wordmap):
                if holds(("fate", *asked, name, "may"), (filling, other, ways)):
                    taken["may"] += 1
                    self.assertEqual(fate(wordmap, "ku", name), "may")
                for claimed in ("surely", "not"):
                    to_one = (chance.choice(asked[1] or (name,)), name)
                    from_one = (name, chance.choice(asked[2] or (name,)))
                    more = thin(wordmap, "ku")[1] + (to_one if claimed == "surely" else from_one,)
                    if holds(("fate", *asked, name, claimed), (filling, ways, more)):
                        taken[claimed] += 1
                        self.assertEqual(all(name in one for one in told), claimed == "surely")
                        self.assertEqual(any(name in one for one in told), claimed == "surely")
        self.assertGreater(taken["thin"], 100)
        self.assertGreater(taken["may"], 50)
        self.assertGreater(taken["surely"], 50)
        self.assertGreater(taken["not"], 50)

    def test_plans_just_where_they_know(self):
        chance = random.Random(65)
        seen = {True: 0, False: 0}
        for _ in range(4000):
            wordmap = self.some_map(chance)
            free = unasked(wordmap)
            told = fillings(wordmap, "ku")
            plan = some_plan(chance, wordmap.land.names(), 3)
            if chance.random() < 0.5:
                plan = self.grown_plan(chance, told, free, 4)
            many = chance.randint(0, 4)
            asked = (wordmap.land.rows, wordmap.have("ku"), lacking(wordmap, "ku"))
            how, ways, least, greatest = thin(wordmap, "ku")
            taken = holds(("plan", *asked, many), (plan, chance.choice((least, greatest)), ways))
            self.assertEqual(taken, plan_holds(plan, thin_fillings(wordmap, "ku"), free, many))
            seen[taken] += 1
        self.assertGreater(min(seen.values()), 500)

    def grown_plan(self, chance, left, free, depth):
        """A plan by chance that is mostly right, but may ask too much."""
        if not left:
            return None if chance.random() < 0.97 else ()
        if len(left) == 1 or depth == 0 or not free:
            return () if chance.random() < 0.97 else None
        name = chance.choice(free)
        return (name, self.grown_plan(chance, [filling for filling in left if name in filling], free, depth - 1),
                self.grown_plan(chance, [filling for filling in left if name not in filling], free, depth - 1))


if __name__ == "__main__":
    unittest.main()
