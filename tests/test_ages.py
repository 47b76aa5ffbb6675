import inspect
import random
import unittest

from tests.helper import KINDS, OWN, refused
from wordlines.ages import age_cut
from wordlines.errors import NoChanges, NoGathering, NoWord
from wordlines.gatherings import Gathering
from wordlines.lands import Land
from wordlines.words import meaning

LAND = Land((("aa", "bb"),))
CHANGES = (("u", "o", "last"), ("k", "g", "first"))
NO_WORDS = KINDS + OWN + (None, True, False, 0, 1, ())


def told(*tellings):
    """A Gathering of (WORD, AGE), (WORD, AGE, SURE) or (WORD, AGE, SURE, THING), each by a teller of its own."""
    gathering = Gathering(LAND)
    for number, (word, age, *rest) in enumerate(tellings):
        sure, thing = (rest + [True, "cow"][len(rest):])
        teller = "t" + "abcdefghij"[number // 10] + "abcdefghij"[number % 10]
        gathering.put("aa", thing, word, teller, age, "self", sure)
    return gathering


def cut_by_all_ages(gathering, thing, one, other, changes):
    """The answer as the document says it, word by word."""
    best = None
    for age in range(122):
        how = 0
        for _, what, word, _, years, _, sure in gathering.tellings():
            meant = meaning(word, changes)
            if what == thing and sure and meant in (meaning(one, changes), meaning(other, changes)):
                should = one if years >= age else other
                how += meant != meaning(should, changes)
        if best is None or how < best[1]:
            best = (age, how)
    return best


class TestAgeCut(unittest.TestCase):
    def test_a_clean_cut(self):
        gathering = told(("ku", 70), ("ku", 50), ("mu", 49), ("mu", 12))
        self.assertEqual(age_cut(gathering, "cow", "ku", "mu"), (50, 0))
        # Turned about, each cut has those who say otherwise.
        self.assertEqual(age_cut(gathering, "cow", "mu", "ku"), (0, 2))

    def test_the_least_age_with_the_least_how(self):
        gathering = told(("ku", 70), ("mu", 30))
        self.assertEqual(age_cut(gathering, "cow", "ku", "mu"), (31, 0))
        gathering = told(("ku", 20), ("mu", 60))
        self.assertEqual(age_cut(gathering, "cow", "ku", "mu"), (0, 1))
        gathering = told(("ku", 80), ("mu", 60), ("ku", 40), ("mu", 20))
        self.assertEqual(age_cut(gathering, "cow", "ku", "mu"), (21, 1))

    def test_those_of_the_age_itself_are_the_older(self):
        gathering = told(("ku", 40), ("ku", 40), ("mu", 40), ("mu", 39))
        self.assertEqual(age_cut(gathering, "cow", "ku", "mu"), (40, 1))

    def test_the_cut_at_0(self):
        self.assertEqual(age_cut(told(("ku", 0)), "cow", "ku", "mu"), (0, 0))
        self.assertEqual(age_cut(told(("ku", 0), ("ku", 120)), "cow", "ku", "mu"), (0, 0))
        self.assertEqual(age_cut(told(("mu", 0), ("ku", 1)), "cow", "ku", "mu"), (1, 0))

    def test_the_cut_at_121(self):
        self.assertEqual(age_cut(told(("mu", 120)), "cow", "ku", "mu"), (121, 0))
        self.assertEqual(age_cut(told(("mu", 120), ("mu", 120), ("ku", 120)), "cow", "ku", "mu"), (121, 1))
        self.assertEqual(age_cut(told(("mu", 119), ("ku", 120)), "cow", "ku", "mu"), (120, 0))

    def test_none_that_means_either(self):
        self.assertEqual(age_cut(told(), "cow", "ku", "mu"), (0, 0))
        self.assertEqual(age_cut(told(("bu", 30), ("ko", 50)), "cow", "ku", "mu"), (0, 0))

    def test_doubtful_tellings_and_other_things_are_left_out(self):
        gathering = told(("ku", 70), ("mu", 30), ("mu", 90, False), ("ku", 5, False), ("mu", 95, True, "pig"))
        self.assertEqual(age_cut(gathering, "cow", "ku", "mu"), (31, 0))
        self.assertEqual(age_cut(gathering, "pig", "ku", "mu"), (96, 0))
        self.assertEqual(age_cut(gathering, "dog", "ku", "mu"), (0, 0))

    def test_by_changes(self):
        gathering = told(("ku", 70), ("go", 60), ("mu", 50), ("mo", 40), ("xx", 90))
        self.assertEqual(age_cut(gathering, "cow", "ku", "mu"), (51, 0))
        self.assertEqual(age_cut(gathering, "cow", "go", "mo"), (41, 0))
        for one in ("ku", "ko", "gu", "go"):
            for other in ("mu", "mo"):
                self.assertEqual(age_cut(gathering, "cow", one, other, CHANGES), (51, 0))
        self.assertEqual(age_cut(told(("go", 20), ("mo", 20)), "cow", "ku", "mu", CHANGES), (0, 1))

    def test_by_place_and_by_name(self):
        gathering = told(("go", 70), ("mo", 30))
        self.assertEqual(age_cut(changes=CHANGES, other="mu", one="ku", thing="cow", gathering=gathering), (31, 0))
        self.assertEqual(age_cut(gathering, "cow", "ku", "mu", CHANGES), (31, 0))
        self.assertEqual(age_cut(gathering, "cow", "ku", "mu", None), (0, 0))
        self.assertEqual(list(inspect.signature(age_cut).parameters), ["gathering", "thing", "one", "other", "changes"])

    def test_kinds_of_what_is_told(self):
        answer = age_cut(told(("ku", 70)), "cow", "ku", "mu")
        self.assertIs(type(answer), tuple)
        self.assertEqual([type(part) for part in answer], [int, int])

    def test_the_gathering_stays_as_it_was(self):
        gathering = told(("ku", 70), ("mu", 30))
        age_cut(gathering, "cow", "ku", "mu", CHANGES)
        self.assertEqual(gathering.tellings(), told(("ku", 70), ("mu", 30)).tellings())
        gathering.back()
        self.assertEqual(len(gathering), 1)

    def test_many_gatherings(self):
        chance = random.Random(6)
        for _ in range(40):
            tellings = []
            for _ in range(chance.randint(0, 40)):
                word = chance.choice("kgm") + chance.choice("uo")
                thing = chance.choice(("cow", "cow", "pig"))
                tellings.append((word, chance.choice((0, 120, chance.randint(0, 120))), chance.random() < 0.8, thing))
            gathering = told(*tellings)
            changes = chance.choice(((), CHANGES, CHANGES[:1]))
            self.assertEqual(
                age_cut(gathering, "cow", "ku", "mu", changes), cut_by_all_ages(gathering, "cow", "ku", "mu", changes))


class TestRefusals(unittest.TestCase):
    def setUp(self):
        self.good = (told(("ku", 70)), "cow", "ku", "mu", CHANGES)

    def test_no_gathering(self):
        for thing in KINDS + (OWN[0], OWN[2], None, True, 0, (), "cow"):
            refused(self, NoGathering, age_cut, thing, *self.good[1:])

    def test_no_word(self):
        for thing in NO_WORDS:
            for at in (1, 2, 3):
                handed = self.good[:at] + (thing,) + self.good[at + 1:]
                self.assertIs(refused(self, NoWord, age_cut, *handed).word, thing)

    def test_no_changes(self):
        for thing in ([("a", "b", "any")], False, 0, "any", CHANGES * 7):
            self.assertIs(refused(self, NoChanges, age_cut, *self.good[:4], thing).place, None)
        self.assertEqual(refused(self, NoChanges, age_cut, *self.good[:4], CHANGES + (("a", "a", "any"),)).place, 2)

    def test_words_that_are_one(self):
        gathering = self.good[0]
        for one, other, changes in (
            ("ku", "ku", None), ("ku", "ku", ()), ("ku", "go", CHANGES), ("go", "ku", CHANGES), ("ko", "ku", CHANGES),
        ):
            self.assertEqual(refused(self, NoWord, age_cut, gathering, "cow", one, other, changes).word, other)
        self.assertEqual(age_cut(gathering, "cow", "ku", "go", CHANGES[:1]), (0, 0))

    def test_words_that_are_one_are_refused_last_of_all(self):
        self.assertEqual(refused(self, NoChanges, age_cut, self.good[0], "cow", "ku", "ku", ("x",)).place, 0)

    def test_the_first_from_the_left(self):
        wrong = (7, "COW", "KU", "MU", [])
        for at, kind in enumerate((NoGathering, NoWord, NoWord, NoWord, NoChanges)):
            error = refused(self, kind, age_cut, *self.good[:at], *wrong[at:])
            if kind is NoWord:
                self.assertEqual(error.word, wrong[at])


if __name__ == "__main__":
    unittest.main()
