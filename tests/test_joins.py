import inspect
import random
import unittest

from tests.helper import KINDS, OWN, refused
from wordlines.errors import Clash, Full, NoBack, NoMap
from wordlines.gatherings import Gathering
from wordlines.joins import clashes, joined
from wordlines.lands import Land

ROWS = (("aa", "bb"), (None, "cc"))
ONE = ("aa", "cow", "ku", "ann", 30, "ida", True)
TWO = ("bb", "cow", "mu", "bob", 40, "ida", False)
THREE = ("aa", "pig", "su", "ann", 30, "ida", True)
KEY = ("aa", "ann", "cow", "ida")
LETTERS = "abcdefghijklmnopqrstuvwxyz"


def told(*tellings):
    gathering = Gathering(Land(ROWS))
    for telling in tellings:
        gathering.put(*telling)
    return gathering


def numbered(*numbers):
    return told(*[("aa", "cow", "ku", LETTERS[number // 26] + LETTERS[number % 26], 30) for number in numbers])


class TestClashes(unittest.TestCase):
    def test_none_in_common(self):
        self.assertEqual(clashes(told(), told()), ())
        self.assertEqual(clashes(told(ONE), told(TWO, THREE)), ())

    def test_alike_tellings_do_not_clash(self):
        self.assertEqual(clashes(told(ONE, TWO), told(TWO, ONE)), ())

    def test_each_part_beside_the_key(self):
        for other in (
            ONE[:2] + ("ko",) + ONE[3:], ONE[:4] + (31,) + ONE[5:], ONE[:6] + (False,),
        ):
            self.assertEqual(clashes(told(ONE, TWO), told(other)), (KEY,))
            self.assertEqual(clashes(told(other), told(TWO, ONE)), (KEY,))

    def test_each_part_of_the_key(self):
        for at, part in ((0, "bb"), (1, "pig"), (3, "eve"), (5, "self")):
            other = list(ONE)
            other[at] = part
            other[2] = "ko"
            self.assertEqual(clashes(told(ONE), told(other)), ())

    def test_rising(self):
        tellings = [(village, thing, "ku", teller, 30, "self", True)
                    for village in ("cc", "aa") for thing in ("pig", "cow") for teller in ("bob", "ann")]
        others = [telling[:2] + ("mu",) + telling[3:] for telling in tellings]
        keys = tuple(sorted((telling[0], telling[3], telling[1], telling[5]) for telling in tellings))
        self.assertEqual(clashes(told(*tellings), told(*others)), keys)
        self.assertEqual(clashes(told(*tellings[::-1]), told(*others[1:])), tuple(
            key for key in keys if key != ("cc", "bob", "pig", "self")))

    def test_by_name_and_kinds(self):
        answer = clashes(other=told(ONE[:6] + (False,)), one=told(ONE))
        self.assertEqual(answer, (KEY,))
        self.assertIs(type(answer), tuple)
        self.assertIs(type(answer[0]), tuple)
        self.assertEqual(list(inspect.signature(clashes).parameters), ["one", "other"])


class TestJoined(unittest.TestCase):
    def test_the_first_ahead_and_what_it_lacks_behind(self):
        together = joined(told(TWO, ONE), told(THREE, TWO))
        self.assertEqual(together.tellings(), [TWO, ONE, THREE])
        self.assertIsInstance(together, Gathering)
        self.assertEqual(together.land, Land(ROWS))
        self.assertEqual(joined(told(THREE, TWO), told(TWO, ONE)).tellings(), [THREE, TWO, ONE])

    def test_with_none_in_common(self):
        self.assertEqual(joined(told(), told()).tellings(), [])
        self.assertEqual(joined(told(ONE), told()).tellings(), [ONE])
        self.assertEqual(joined(told(), told(ONE)).tellings(), [ONE])

    def test_in_any_turn_alike(self):
        self.assertEqual(joined(told(ONE, TWO), told(THREE)), joined(told(THREE), told(ONE, TWO)))
        chance = random.Random(18)
        for _ in range(30):
            one, other, third = (numbered(*chance.sample(range(40), chance.randint(0, 30))) for _ in range(3))
            self.assertEqual(joined(one, other), joined(other, one))
            self.assertEqual(joined(joined(one, other), third), joined(one, joined(other, third)))
            ahead = one.tellings()
            behind = [telling for telling in other.tellings() if telling not in ahead]
            self.assertEqual(joined(one, other).tellings(), ahead + behind)

    def test_with_itself(self):
        gathering = told(ONE, TWO)
        together = joined(gathering, gathering)
        self.assertEqual(together, gathering)
        together.put(*THREE)
        self.assertEqual(gathering.tellings(), [ONE, TWO])

    def test_no_deed_to_take_back(self):
        for one, other in ((told(ONE), told(TWO)), (told(), told())):
            refused(self, NoBack, joined(one, other).back)
        together = joined(told(ONE), told(TWO))
        together.put(*THREE)
        together.back()
        self.assertEqual(together.tellings(), [ONE, TWO])
        refused(self, NoBack, together.back)

    def test_it_is_new_and_both_stay_as_they_were(self):
        one, other = told(ONE), told(TWO, THREE)
        together = joined(one, other)
        together.strike("aa", "ann", "cow", "ida")
        self.assertEqual((one.tellings(), other.tellings()), ([ONE], [TWO, THREE]))
        one.back()
        other.back()
        self.assertEqual((one.tellings(), other.tellings()), ([], [TWO]))
        self.assertEqual(together.tellings(), [TWO, THREE])

    def test_by_name(self):
        self.assertEqual(joined(other=told(TWO), one=told(ONE)).tellings(), [ONE, TWO])
        self.assertEqual(list(inspect.signature(joined).parameters), ["one", "other"])

    def test_clash(self):
        one, other = told(TWO, ONE, THREE), told(THREE[:4] + (31,) + THREE[5:], ONE[:6] + (False,), TWO)
        both = (KEY, ("aa", "ann", "pig", "ida"))
        self.assertEqual(refused(self, Clash, joined, one, other).both, both)
        self.assertEqual(refused(self, Clash, joined, other, one).both, both)
        self.assertEqual(one.tellings(), [TWO, ONE, THREE])
        self.assertEqual(len(other), 3)
        one.back()
        self.assertEqual(len(one), 2)

    def test_full(self):
        self.assertEqual(len(joined(numbered(*range(100)), numbered(*range(100, 200)))), 200)
        self.assertEqual(len(joined(numbered(*range(150)), numbered(*range(50, 200)))), 200)
        self.assertEqual(len(joined(numbered(*range(200)), numbered(*range(200)))), 200)
        self.assertEqual(refused(self, Full, joined, numbered(*range(100)), numbered(*range(100, 201))).many, 200)
        self.assertEqual(refused(self, Full, joined, numbered(*range(150)), numbered(*range(50, 201))).many, 200)
        self.assertEqual(refused(self, Full, joined, numbered(*range(200)), numbered(*range(200, 400))).many, 200)

    def test_clash_ahead_of_full(self):
        other = numbered(*range(1, 201))
        other.strike("aa", "ab", "cow")
        other.put("aa", "cow", "mu", "ab", 30)
        both = (("aa", "ab", "cow", "self"),)
        self.assertEqual(refused(self, Clash, joined, numbered(*range(200)), other).both, both)


class TestNoMap(unittest.TestCase):
    def test_what_is_no_gathering(self):
        for call in (clashes, joined):
            for thing in KINDS + (OWN[0], OWN[2], None, True, 0, (), str(told(ONE))):
                self.assertEqual(refused(self, NoMap, call, thing, told(ONE)).place, 0)
                self.assertEqual(refused(self, NoMap, call, told(ONE), thing).place, 1)
                self.assertEqual(refused(self, NoMap, call, thing, thing).place, 0)

    def test_unlike_lands(self):
        for rows in ((("aa", "bb"), ("dd", "cc")), (("bb", "aa"), (None, "cc")), (("aa", "bb"),)):
            other = Gathering(Land(rows))
            other.put("aa", *ONE[1:6], False)
            for call in (clashes, joined):
                self.assertIs(refused(self, NoMap, call, told(ONE), other).place, None)
                self.assertIs(refused(self, NoMap, call, other, told(ONE)).place, None)


if __name__ == "__main__":
    unittest.main()
