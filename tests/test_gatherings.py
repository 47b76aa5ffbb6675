import random
import unittest

from tests.helper import KINDS, OWN, AlikeToAll, refused
from wordlines.errors import Full, NoAge, NoBack, NoLand, NoName, NoSure, NoTelling, NoWord, Told
from wordlines.gatherings import Gathering
from wordlines.lands import Land

LAND = Land((("aa", "bb"), (None, "cc")))
TELLING = ("aa", "cow", "ku", "ann", 30, "ida", False)
KEY = ("aa", "ann", "cow", "ida")
NO_WORDS = KINDS + OWN + (None, True, False, 0, 1, ())


def name(number):
    """A word of its own for each number."""
    return "abcdefghijklmnopqrstuvwxyz"[number // 26] + "abcdefghijklmnopqrstuvwxyz"[number % 26]


def filled(many=200):
    gathering = Gathering(LAND)
    for number in range(many):
        gathering.put("aa", "cow", "ku", name(number), 30)
    return gathering


class TestDeeds(unittest.TestCase):
    def setUp(self):
        self.gathering = Gathering(LAND)

    def test_a_new_gathering(self):
        self.assertIs(self.gathering.land, LAND)
        self.assertEqual(self.gathering.tellings(), [])
        self.assertEqual(self.gathering.things(), ())
        self.assertEqual(self.gathering.gatherers(), ())
        self.assertEqual(len(self.gathering), 0)
        self.assertEqual(repr(self.gathering), "Gathering(0)")
        self.assertEqual(str(self.gathering), "aa bb\n- cc\n.")
        self.assertEqual(Gathering(land=LAND), self.gathering)

    def test_put_by_place(self):
        self.assertIs(self.gathering.put(*TELLING), None)
        self.assertEqual(self.gathering.tellings(), [TELLING])

    def test_put_by_name(self):
        self.gathering.put(sure=False, gatherer="ida", age=30, teller="ann", word="ku", thing="cow", village="aa")
        self.assertEqual(self.gathering.tellings(), [TELLING])

    def test_put_with_gatherer_and_sure_left_out(self):
        self.gathering.put("aa", "cow", "ku", "ann", 0)
        self.gathering.put("aa", "cow", "ku", "bob", 120, "ida")
        self.gathering.put("aa", "cow", "ku", "cid", 7, sure=False)
        self.assertEqual(self.gathering.tellings(), [
            ("aa", "cow", "ku", "ann", 0, "self", True),
            ("aa", "cow", "ku", "bob", 120, "ida", True),
            ("aa", "cow", "ku", "cid", 7, "self", False),
        ])

    def test_a_telling_of_each_part_of_the_key_of_its_own(self):
        self.gathering.put(*TELLING)
        for at, other in ((0, "bb"), (1, "cat"), (3, "bob"), (5, "self")):
            self.gathering.put(*TELLING[:at], other, *TELLING[at + 1:])
        self.assertEqual(len(self.gathering), 5)

    def test_strike_by_place_and_by_name(self):
        self.gathering.put(*TELLING)
        self.gathering.put("bb", "cow", "ku", "ann", 3)
        self.assertIs(self.gathering.strike("aa", "ann", "cow", "ida"), None)
        self.assertEqual(len(self.gathering), 1)
        self.gathering.strike(thing="cow", teller="ann", village="bb")
        self.assertEqual(self.gathering.tellings(), [])
        self.gathering.put(*TELLING)
        self.gathering.strike(gatherer="ida", thing="cow", teller="ann", village="aa")
        self.assertEqual(self.gathering.tellings(), [])

    def test_what_was_struck_may_be_put_in_again_and_stands_last(self):
        other = ("bb", "cow", "ku", "bob", 3, "self", True)
        self.gathering.put(*TELLING)
        self.gathering.put(*other)
        self.gathering.strike(*KEY)
        self.gathering.put(*TELLING)
        self.assertEqual(self.gathering.tellings(), [other, TELLING])

    def test_back_of_a_put(self):
        self.gathering.put(*TELLING)
        self.assertIs(self.gathering.back(), None)
        self.assertEqual(self.gathering.tellings(), [])
        refused(self, NoBack, self.gathering.back)
        self.gathering.put(*TELLING)
        self.assertEqual(self.gathering.tellings(), [TELLING])

    def test_back_of_a_strike_brings_the_turn_back(self):
        for teller in ("ann", "bob", "cid"):
            self.gathering.put("aa", "cow", "ku", teller, 3)
        ahead = self.gathering.tellings()
        for teller in ("ann", "bob", "cid"):
            self.gathering.strike("aa", teller, "cow")
            self.gathering.back()
            self.assertEqual(self.gathering.tellings(), ahead)

    def test_back_of_a_put_over_a_strike(self):
        self.gathering.put("aa", "cow", "ku", "ann", 3)
        self.gathering.put("aa", "cow", "ku", "bob", 3)
        first = self.gathering.tellings()
        self.gathering.strike("aa", "ann", "cow")
        self.gathering.put("aa", "cow", "mu", "ann", 4)
        self.gathering.back()
        self.gathering.back()
        self.assertEqual(self.gathering.tellings(), first)

    def test_what_is_refused_is_no_deed(self):
        self.gathering.put(*TELLING)
        refused(self, Told, self.gathering.put, *TELLING)
        refused(self, NoTelling, self.gathering.strike, "aa", "bob", "cow")
        refused(self, NoAge, self.gathering.put, "aa", "cow", "ku", "bob", 121)
        self.gathering.back()
        self.assertEqual(self.gathering.tellings(), [])
        refused(self, NoBack, self.gathering.back)
        refused(self, NoBack, self.gathering.back)
        self.assertEqual(self.gathering.tellings(), [])

    def test_deeds_in_any_turn(self):
        chance = random.Random(5)
        for _ in range(60):
            gathering = Gathering(LAND)
            # What stands, and what stood ahead of each deed.
            stands, ahead = [], []
            for _ in range(60):
                deed = chance.choice(("put", "put", "strike", "back"))
                telling = (chance.choice(("aa", "bb")), chance.choice(("cow", "cat")), chance.choice(("ku", "mu")),
                           chance.choice(("ann", "bob")), chance.randint(0, 120), chance.choice(("self", "ida")),
                           chance.random() < 0.5)
                key = (telling[0], telling[3], telling[1], telling[5])
                found = [old for old in stands if (old[0], old[3], old[1], old[5]) == key]
                if deed == "put" and found:
                    self.assertEqual(refused(self, Told, gathering.put, *telling).key, key)
                elif deed == "put":
                    ahead.append(stands)
                    stands = stands + [telling]
                    gathering.put(*telling)
                elif deed == "strike" and not found:
                    self.assertEqual(refused(self, NoTelling, gathering.strike, *key).key, key)
                elif deed == "strike":
                    ahead.append(stands)
                    stands = [old for old in stands if old != found[0]]
                    gathering.strike(*key)
                elif not ahead:
                    refused(self, NoBack, gathering.back)
                else:
                    stands = ahead.pop()
                    gathering.back()
                self.assertEqual(gathering.tellings(), stands)
                self.assertEqual(len(gathering), len(stands))
            while ahead:
                gathering.back()
                self.assertEqual(gathering.tellings(), ahead.pop())
            refused(self, NoBack, gathering.back)


class TestTold(unittest.TestCase):
    def setUp(self):
        self.gathering = Gathering(LAND)
        self.rows = [
            ("cc", "cow", "ku", "zoe", 40, "self", True),
            ("aa", "pig", "su", "ann", 9, "ida", False),
            ("bb", "cow", "mu", "bob", 40, "ben", True),
            ("aa", "ant", "em", "ann", 9, "self", True),
        ]
        for row in self.rows:
            self.gathering.put(*row)

    def test_tellings_as_put_in(self):
        self.assertEqual(self.gathering.tellings(), self.rows)
        self.assertEqual(self.gathering.tellings(None), self.rows)
        self.assertEqual(self.gathering.tellings(keying=None), self.rows)

    def test_tellings_by_a_keying(self):
        one, two, three, four = self.rows
        self.assertEqual(self.gathering.tellings(lambda telling: telling), [four, two, three, one])
        self.assertEqual(self.gathering.tellings(keying=lambda telling: telling[4]), [two, four, one, three])
        self.assertEqual(self.gathering.tellings(lambda telling: -telling[4]), [one, three, two, four])
        self.assertEqual(self.gathering.tellings(lambda telling: 0), self.rows)
        self.assertEqual(self.gathering.tellings(lambda telling: telling[6]), [two, one, three, four])
        self.assertEqual(self.gathering.tellings(len), self.rows)

    def test_those_by_an_ask(self):
        one, two, three, four = self.rows
        self.assertEqual(self.gathering.those(lambda telling: telling[1] == "cow"), [one, three])
        self.assertEqual(self.gathering.those(ask=lambda telling: telling[4] < 10), [two, four])
        self.assertEqual(self.gathering.those(lambda telling: False), [])
        self.assertEqual(self.gathering.those(lambda telling: True), self.rows)

    def test_lists_are_new_each_time(self):
        calls = (
            self.gathering.tellings,
            lambda: self.gathering.tellings(lambda telling: 0),
            lambda: self.gathering.those(lambda telling: True),
        )
        for call in calls:
            told = call()
            self.assertIs(type(told), list)
            told.clear()
            self.assertEqual(call(), self.rows)
            self.assertEqual(len(self.gathering), 4)

    def test_each_telling_is_a_tuple(self):
        for telling in self.gathering.tellings():
            self.assertIs(type(telling), tuple)

    def test_a_told_list_stays_when_the_gathering_goes_on(self):
        told = self.gathering.tellings()
        self.gathering.back()
        self.assertEqual(told, self.rows)

    def test_things_and_gatherers(self):
        self.assertEqual(self.gathering.things(), ("ant", "cow", "pig"))
        self.assertEqual(self.gathering.gatherers(), ("ben", "ida", "self"))
        self.gathering.strike("bb", "bob", "cow", "ben")
        self.assertEqual(self.gathering.things(), ("ant", "cow", "pig"))
        self.assertEqual(self.gathering.gatherers(), ("ida", "self"))
        self.gathering.strike("cc", "zoe", "cow")
        self.assertEqual(self.gathering.things(), ("ant", "pig"))

    def test_len_str_repr(self):
        self.assertEqual(len(self.gathering), 4)
        self.assertEqual(repr(self.gathering), "Gathering(4)")
        self.assertEqual(str(self.gathering), (
            "aa bb\n- cc\n.\ncc cow ku zoe 40 self\naa pig su ann 9 ida ?\nbb cow mu bob 40 ben\naa ant em ann 9 self"))

    def test_likeness_in_whatever_turn(self):
        other = Gathering(Land(LAND.rows))
        self.assertFalse(other == self.gathering)
        for row in self.rows[::-1]:
            other.put(*row)
        self.assertTrue(other == self.gathering)
        self.assertFalse(other != self.gathering)
        other.back()
        self.assertFalse(other == self.gathering)
        other.put(*self.rows[0][:6], False)
        self.assertFalse(other == self.gathering)

    def test_each_part_of_a_telling_counts_for_likeness(self):
        one = Gathering(LAND)
        one.put(*TELLING)
        for at, part in enumerate(("bb", "cat", "mu", "bob", 31, "self", True)):
            other = Gathering(LAND)
            other.put(*TELLING[:at], part, *TELLING[at + 1:])
            self.assertTrue(one != other)

    def test_likeness_needs_alike_lands(self):
        self.assertFalse(Gathering(LAND) == Gathering(Land((("aa", "bb"), ("cc", None)))))
        self.assertTrue(Gathering(LAND) == Gathering(Land((("aa", "bb"), (None, "cc")))))

    def test_likeness_to_things_of_other_kinds(self):
        for thing in KINDS + OWN + (None, True, 4, (), self.rows, str(self.gathering)):
            self.assertIs(self.gathering == thing, False)
            self.assertIs(self.gathering != thing, True)
            if not isinstance(thing, AlikeToAll):
                self.assertIs(thing == self.gathering, False)

    def test_deeds_do_not_count_for_likeness(self):
        other = Gathering(LAND)
        for row in self.rows:
            other.put(*row)
        other.strike("cc", "zoe", "cow")
        other.back()
        self.assertTrue(other == self.gathering)


class TestRefusals(unittest.TestCase):
    def setUp(self):
        self.gathering = Gathering(LAND)
        self.gathering.put(*TELLING)

    def tearDown(self):
        self.assertEqual(self.gathering.tellings(), [TELLING])
        self.assertEqual(self.gathering.land, LAND)
        self.gathering.back()
        refused(self, NoBack, self.gathering.back)

    def refused_part(self, kind, at, thing):
        telling = ("bb", "cow", "ku", "ann", 30, "ida", False)
        return refused(self, kind, self.gathering.put, *telling[:at], thing, *telling[at + 1:])

    def test_no_land(self):
        for thing in KINDS + OWN[1:] + (None, True, (), LAND.rows, str(LAND)):
            self.assertIs(refused(self, NoLand, Gathering, thing).place, None)

    def test_no_name(self):
        for thing in NO_WORDS + ("dd", "a", "self", (0, 0)):
            self.assertIs(self.refused_part(NoName, 0, thing).name, thing)

    def test_no_word(self):
        for at in (1, 2, 3, 5):
            for thing in NO_WORDS:
                self.assertIs(self.refused_part(NoWord, at, thing).word, thing)

    def test_no_age(self):
        for thing in KINDS + OWN + (None, True, False, (), "30", [30], -1, 121, 10 ** 30, -10 ** 30):
            self.assertIs(self.refused_part(NoAge, 4, thing).age, thing)

    def test_no_sure(self):
        for thing in KINDS + OWN + (None, 0, 1, (), "True", "?"):
            self.assertIs(self.refused_part(NoSure, 6, thing).sure, thing)

    def test_the_first_from_the_left(self):
        wrong = ("dd", "A", "B", "C", 121, "D", 1)
        good = ("bb", "cow", "ku", "ann", 30, "ida", False)
        kinds = (NoName, NoWord, NoWord, NoWord, NoAge, NoWord, NoSure)
        fields = ("name", "word", "word", "word", "age", "word", "sure")
        for at in range(7):
            error = refused(self, kinds[at], self.gathering.put, *good[:at], *wrong[at:])
            self.assertEqual(getattr(error, fields[at]), wrong[at])

    def test_an_argument_is_refused_ahead_of_told(self):
        refused(self, NoSure, self.gathering.put, *TELLING[:6], 1)
        refused(self, NoAge, self.gathering.put, "aa", "cow", "ku", "ann", True, "ida")

    def test_told(self):
        error = refused(self, Told, self.gathering.put, "aa", "cow", "other", "ann", 3, "ida", True)
        self.assertEqual(error.key, KEY)
        self.assertIs(type(error.key), tuple)

    def test_no_telling_of_things_of_any_kind(self):
        for thing in NO_WORDS + ("dd", "pig"):
            for at in range(4):
                key = KEY[:at] + (thing,) + KEY[at + 1:]
                error = refused(self, NoTelling, self.gathering.strike, *key)
                self.assertIs(type(error.key), tuple)
                self.assertEqual(len(error.key), 4)
                for told, handed in zip(error.key, key):
                    self.assertIs(told, handed)

    def test_no_telling_with_the_gatherer_left_out(self):
        self.assertEqual(refused(self, NoTelling, self.gathering.strike, "aa", "ann", "cow").key,
                         ("aa", "ann", "cow", "self"))
        self.assertEqual(refused(self, NoTelling, self.gathering.strike, thing=7, teller=None, village=[]).key,
                         ([], None, 7, "self"))

    def test_what_is_handed_in_stays_as_it_was(self):
        wrong = [{"a": ["b"]}]
        refused(self, NoName, self.gathering.put, wrong, "cow", "ku", "ann", 3)
        refused(self, NoTelling, self.gathering.strike, wrong, wrong, wrong, wrong)
        self.assertEqual(wrong, [{"a": ["b"]}])


class TestFull(unittest.TestCase):
    def test_two_hundred_and_no_more(self):
        gathering = filled(199)
        gathering.put("bb", "cow", "ku", "ann", 3)
        self.assertEqual(len(gathering), 200)
        ahead = gathering.tellings()
        self.assertEqual(refused(self, Full, gathering.put, "cc", "cow", "ku", "ann", 3).many, 200)
        self.assertEqual(gathering.tellings(), ahead)
        gathering.back()
        self.assertEqual(len(gathering), 199)

    def test_told_and_arguments_ahead_of_full(self):
        gathering = filled()
        self.assertEqual(refused(self, Told, gathering.put, "aa", "cow", "ku", "aa", 3).key,
                         ("aa", "aa", "cow", "self"))
        refused(self, NoSure, gathering.put, "cc", "cow", "ku", "ann", 3, "self", 0)

    def test_room_after_a_strike(self):
        gathering = filled()
        gathering.strike("aa", name(100), "cow")
        gathering.put("cc", "cow", "ku", "ann", 3)
        refused(self, Full, gathering.put, "cc", "cow", "ku", "bob", 3)
        gathering.back()
        gathering.back()
        self.assertEqual(gathering.tellings(), filled().tellings())


if __name__ == "__main__":
    unittest.main()
