import inspect
import random
import unittest

from tests.helper import KINDS, OWN, refused
from wordlines.errors import NoChanges, NoGathering, NoWord
from wordlines.gatherings import Gathering
from wordlines.habits import habit
from wordlines.lands import Land
from wordlines.words import meaning

LAND = Land((("aa", "bb"),))
CHANGES = (("u", "o", "last"), ("k", "g", "first"))
NO_WORDS = KINDS + OWN + (None, True, False, 0, 1, ())


def told(*tellings):
    """A Gathering of rows VILLAGE TELLER WORD GATHERER, perhaps with a thing behind, and `?` where it is doubtful."""
    gathering = Gathering(LAND)
    for row in tellings:
        village, teller, word, gatherer, *rest = row.split()
        thing = [part for part in rest if part != "?"] or ["cow"]
        gathering.put(village, thing[0], word, teller, 30, gatherer, "?" not in rest)
    return gathering


def habit_by_words(gathering, thing, one, other, changes):
    """The answer as the document says it, word by word."""
    wrote = {}
    for village, what, word, teller, _, gatherer, sure in gathering.tellings():
        for number, meant in enumerate((one, other)):
            if what == thing and sure and meaning(word, changes) == meaning(meant, changes):
                wrote.setdefault((village, teller), set()).add(number)
                wrote.setdefault(gatherer, set()).add(number)
    numbers = [number for which in wrote.values() for number in which]
    if 0 not in numbers or 1 not in numbers:
        return ("none",)
    tellers = sorted(who for who in wrote if isinstance(who, tuple) and len(wrote[who]) == 2)
    if tellers:
        return ("shown",) + tellers[0]
    gatherers = sorted(who for who in wrote if isinstance(who, str))
    both = [who for who in gatherers if len(wrote[who]) == 2]
    if both:
        return ("not", both[0])
    return ("may",) + tuple(tuple(who for who in gatherers if number in wrote[who]) for number in (0, 1))


class TestHabit(unittest.TestCase):
    def test_none(self):
        for rows in ((), ("aa ann ku ida",), ("aa ann mu ida", "bb bob mu eve"), ("aa ann xu ida", "bb bob ku ida")):
            self.assertEqual(habit(told(*rows), "cow", "ku", "mu"), ("none",))

    def test_shown(self):
        gathering = told("aa ann ku ida", "aa ann mu eve")
        self.assertEqual(habit(gathering, "cow", "ku", "mu"), ("shown", "aa", "ann"))
        self.assertEqual(habit(gathering, "cow", "mu", "ku"), ("shown", "aa", "ann"))

    def test_the_first_that_is_shown(self):
        rows = ["bb ann ku ida", "bb ann mu eve"]
        for teller in ("kim", "fay", "jon", "cid", "gus", "dan", "hal"):
            rows += [f"aa {teller} mu ida", f"aa {teller} ku eve"]
        self.assertEqual(habit(told(*rows), "cow", "ku", "mu"), ("shown", "aa", "cid"))

    def test_shown_is_of_one_teller_in_one_village(self):
        gathering = told("aa ann ku ida", "bb ann mu eve", "aa bob mu eve")
        self.assertEqual(habit(gathering, "cow", "ku", "mu"), ("may", ("ida",), ("eve",)))

    def test_not(self):
        gathering = told("aa ann ku ida", "bb bob mu ida", "bb cid mu eve")
        self.assertEqual(habit(gathering, "cow", "ku", "mu"), ("not", "ida"))

    def test_the_first_who_wrote_both(self):
        rows = ["aa eli ku bea"]
        for gatherer in ("ida", "zoe", "kim", "eve", "jon", "hal", "gus"):
            rows += [f"aa {gatherer} ku {gatherer}", f"bb {gatherer} mu {gatherer}"]
        self.assertEqual(habit(told(*rows), "cow", "ku", "mu"), ("not", "eve"))

    def test_may(self):
        gathering = told(
            "aa ann ku zoe", "aa bob ku ida", "bb cid mu eve", "bb dan mu bea", "bb fay xu ada", "aa eli ku ida")
        self.assertEqual(habit(gathering, "cow", "ku", "mu"), ("may", ("ida", "zoe"), ("bea", "eve")))
        self.assertEqual(habit(gathering, "cow", "mu", "ku"), ("may", ("bea", "eve"), ("ida", "zoe")))

    def test_of_several_that_are_so_the_first(self):
        shown_and_not = told("aa ann ku ida", "aa ann mu eve", "bb bob mu ida", "bb cid ku bea", "bb dan mu bea")
        self.assertEqual(habit(shown_and_not, "cow", "ku", "mu"), ("shown", "aa", "ann"))

    def test_doubtful_tellings_are_left_out(self):
        self.assertEqual(habit(told("aa ann ku ida", "bb bob mu eve ?"), "cow", "ku", "mu"), ("none",))
        gathering = told("aa ann ku ida", "aa ann mu eve ?", "bb bob mu eve", "bb cid mu ida ?")
        self.assertEqual(habit(gathering, "cow", "ku", "mu"), ("may", ("ida",), ("eve",)))

    def test_other_things_are_left_out(self):
        gathering = told("aa ann ku ida", "aa ann mu eve pig", "bb bob mu eve", "bb cid mu ida pig")
        self.assertEqual(habit(gathering, "cow", "ku", "mu"), ("may", ("ida",), ("eve",)))
        self.assertEqual(habit(gathering, "pig", "ku", "mu"), ("none",))

    def test_words_that_are_one_by_changes(self):
        gathering = told("aa ann ku ida", "aa bob go eve", "bb cid mu bea", "bb dan mo zoe")
        self.assertEqual(habit(gathering, "cow", "ku", "mu"), ("may", ("ida",), ("bea",)))
        self.assertEqual(habit(gathering, "cow", "ko", "mu", CHANGES), ("may", ("eve", "ida"), ("bea", "zoe")))
        gathering = told("aa ann ku ida", "aa ann go eve", "bb bob mu bea")
        self.assertEqual(habit(gathering, "cow", "ku", "mu", CHANGES), ("may", ("eve", "ida"), ("bea",)))
        self.assertEqual(habit(gathering, "cow", "ku", "go", ()), ("shown", "aa", "ann"))

    def test_many_gatherings(self):
        chance = random.Random(17)
        seen = set()
        for _ in range(200):
            gathering = Gathering(LAND)
            keys = {(chance.choice(("aa", "bb")), chance.choice(("ann", "bob", "cid", "dan")),
                     chance.choice(("cow", "cow", "pig")), chance.choice(("ida", "eve", "bea", "zoe")))
                    for _ in range(chance.randint(0, 10))}
            for village, teller, thing, gatherer in sorted(keys):
                word = chance.choice(("ku", "go", "mu", "xu"))
                gathering.put(village, thing, word, teller, 30, gatherer, chance.random() < 0.8)
            changes = chance.choice(((), CHANGES))
            answer = habit(gathering, "cow", "ku", "mu", changes)
            self.assertEqual(answer, habit_by_words(gathering, "cow", "ku", "mu", changes))
            seen.add(answer[0])
        self.assertEqual(seen, {"none", "shown", "not", "may"})

    def test_by_place_and_by_name_and_kinds(self):
        gathering = told("aa ann go ida", "bb bob mo eve")
        answer = habit(changes=CHANGES, other="mu", one="ku", thing="cow", gathering=gathering)
        self.assertEqual(answer, ("may", ("ida",), ("eve",)))
        self.assertEqual(habit(gathering, "cow", "ku", "mu", None), ("none",))
        for row in (answer, answer[1], answer[2], habit(gathering, "cow", "ku", "mu")):
            self.assertIs(type(row), tuple)
        self.assertEqual(list(inspect.signature(habit).parameters), ["gathering", "thing", "one", "other", "changes"])

    def test_the_gathering_stays_as_it_was(self):
        gathering = told("aa ann ku ida", "bb bob mu eve")
        habit(gathering, "cow", "ku", "mu", CHANGES)
        self.assertEqual(gathering.tellings(), told("aa ann ku ida", "bb bob mu eve").tellings())
        gathering.back()
        self.assertEqual(len(gathering), 1)


class TestRefusals(unittest.TestCase):
    def setUp(self):
        self.good = (told("aa ann ku ida"), "cow", "ku", "mu", CHANGES)

    def test_no_gathering(self):
        for thing in KINDS + (OWN[0], OWN[2], None, True, 0, (), "cow"):
            refused(self, NoGathering, habit, thing, *self.good[1:])

    def test_no_word(self):
        for thing in NO_WORDS:
            for at in (1, 2, 3):
                handed = self.good[:at] + (thing,) + self.good[at + 1:]
                self.assertIs(refused(self, NoWord, habit, *handed).word, thing)

    def test_no_changes(self):
        for thing in ([("a", "b", "any")], False, 0, "any", CHANGES * 7):
            self.assertIs(refused(self, NoChanges, habit, *self.good[:4], thing).place, None)
        self.assertEqual(refused(self, NoChanges, habit, *self.good[:4], CHANGES + (("a", "a", "any"),)).place, 2)

    def test_words_that_are_one(self):
        for one, other, changes in (("ku", "ku", None), ("ku", "go", CHANGES), ("go", "ku", CHANGES)):
            self.assertEqual(refused(self, NoWord, habit, self.good[0], "cow", one, other, changes).word, other)

    def test_words_that_are_one_are_refused_last_of_all(self):
        self.assertEqual(refused(self, NoChanges, habit, self.good[0], "cow", "ku", "ku", ("x",)).place, 0)

    def test_the_first_from_the_left(self):
        wrong = (7, "COW", "KU", "MU", [])
        for at, kind in enumerate((NoGathering, NoWord, NoWord, NoWord, NoChanges)):
            error = refused(self, kind, habit, *self.good[:at], *wrong[at:])
            if kind is NoWord:
                self.assertEqual(error.word, wrong[at])


if __name__ == "__main__":
    unittest.main()
