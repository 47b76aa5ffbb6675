import itertools
import random
import unittest

from tests.helper import KINDS, OWN, refused
from wordlines.errors import NoChanges, NoWord
from wordlines.words import are_one, is_word, meaning, row_between

TWELVE = tuple(("a", letter, "any") for letter in "bcdefghijklm")


def turned(word, changes):
    """All words that one change makes of a word, as the document tells it."""
    made = set()
    for one, other, where in changes:
        for place in range(len(word)):
            if where == "first" and place != 0 or where == "last" and place != len(word) - 1:
                continue
            for old, new in ((one, other), (other, one)):
                if word[place] == old:
                    made.add(word[:place] + new + word[place + 1:])
    return made


def distances(word, changes):
    """How many changes lead to each word that is one with this one, by going through all of them."""
    far = {word: 0}
    edge = [word]
    while edge:
        ahead = []
        for found in edge:
            for made in sorted(turned(found, changes)):
                if made not in far:
                    far[made] = far[found] + 1
                    ahead.append(made)
        edge = ahead
    return far


def some_changes(chance, letters, most):
    made = []
    for _ in range(chance.randint(0, most)):
        one, other = chance.sample(letters, 2)
        made.append((one, other, chance.choice(("first", "last", "any"))))
    return tuple(made)


class TestIsWord(unittest.TestCase):
    def test_one_to_eight_small_letters_are_a_word(self):
        for thing in ("a", "z", "az", "abcdefgh", "zzzzzzzz", "self", "qrstuvwx"):
            self.assertIs(is_word(thing), True, thing)

    def test_things_of_other_kinds_are_none(self):
        for thing in KINDS + (None, True, False, 0, 1, (), *OWN, "abcdefghi", "a" * 20000, "`", "{", "aZ", "A"):
            self.assertIs(is_word(thing), False, repr(thing)[:40])

    def test_each_sign_but_small_letters_is_refused_in_each_place(self):
        for code in range(32, 127):
            sign = chr(code)
            for thing in (sign, sign + "ab", "a" + sign + "b", "ab" + sign):
                self.assertIs(is_word(thing), "a" <= sign <= "z", thing)

    def test_by_name(self):
        self.assertIs(is_word(thing="ab"), True)


class TestRows(unittest.TestCase):
    def check_row(self, row, word, other, changes):
        self.assertIs(type(row), tuple)
        self.assertEqual(row[0], word)
        self.assertEqual(row[-1], other)
        for ahead, behind in zip(row, row[1:]):
            self.assertIn(behind, turned(ahead, changes))

    def test_no_changes(self):
        for changes in (None, ()):
            self.assertEqual(row_between("ab", "ab", changes), ("ab",))
            self.assertIs(row_between("ab", "ac", changes), None)
            self.assertIs(are_one("ab", "ab", changes), True)
            self.assertIs(are_one("ab", "ac", changes), False)
            self.assertEqual(meaning("zebra", changes), "zebra")
        self.assertEqual(row_between("ab", "ab"), ("ab",))
        self.assertIs(row_between("ab", "ac"), None)
        self.assertIs(are_one("a", "a"), True)
        self.assertIs(are_one("a", "b"), False)
        self.assertEqual(meaning("zebra"), "zebra")

    def test_the_first_letter_alone(self):
        changes = (("z", "s", "first"),)
        self.assertEqual(row_between("zaz", "saz", changes), ("zaz", "saz"))
        self.assertEqual(row_between("saz", "zaz", changes), ("saz", "zaz"))
        self.assertIs(row_between("zaz", "zas", changes), None)
        self.assertIs(are_one("aza", "asa", changes), False)
        self.assertEqual(meaning("zaz", changes), "saz")

    def test_the_last_letter_alone(self):
        changes = (("z", "s", "last"),)
        self.assertEqual(row_between("zaz", "zas", changes), ("zaz", "zas"))
        self.assertIs(are_one("zaz", "saz", changes), False)
        self.assertIs(are_one("aza", "asa", changes), False)
        self.assertEqual(meaning("zaz", changes), "zas")

    def test_any_letter_one_at_a_time(self):
        changes = (("z", "s", "any"),)
        row = row_between("zaz", "sas", changes)
        self.check_row(row, "zaz", "sas", changes)
        self.assertEqual(len(row), 3)
        self.assertIs(are_one("aza", "asa", changes), True)
        self.assertEqual(meaning("zazbz", changes), "sasbs")

    def test_words_of_one_letter_have_it_first_and_last(self):
        for where in ("first", "last", "any"):
            changes = (("p", "b", where),)
            self.assertEqual(row_between("p", "b", changes), ("p", "b"))
            self.assertEqual(meaning("p", changes), "b")
        both = (("p", "q", "first"), ("q", "b", "last"))
        self.assertEqual(row_between("p", "b", both), ("p", "q", "b"))
        self.assertIs(are_one("pa", "ba", both), False)

    def test_words_of_eight_letters(self):
        changes = (("a", "b", "any"), ("h", "i", "last"), ("a", "x", "first"))
        row = row_between("xaaaaaah", "bbbbbbbi", changes)
        self.check_row(row, "xaaaaaah", "bbbbbbbi", changes)
        self.assertEqual(len(row), 1 + 2 + 6 + 1)
        self.assertEqual(meaning("xbbbbbbi", changes), "aaaaaaah")

    def test_words_of_unlike_lengths_are_never_one(self):
        for word, other in (("a", "aa"), ("aaaaaaaa", "aaaaaaa"), ("ab", "a")):
            self.assertIs(row_between(word, other, (("a", "b", "any"),)), None)
            self.assertIs(are_one(word, other, (("a", "b", "any"),)), False)

    def test_alike_words_are_a_row_of_one(self):
        self.assertEqual(row_between("abba", "abba", (("a", "b", "any"),)), ("abba",))
        self.assertIs(are_one("abba", "abba", (("a", "b", "any"),)), True)

    def test_chains_of_several_changes(self):
        chain = (("a", "b", "any"), ("b", "c", "first"), ("c", "d", "any"), ("d", "e", "last"))
        row = row_between("a", "e", chain)
        self.assertEqual(row, ("a", "b", "c", "d", "e"))
        self.assertIs(are_one("ax", "ex", chain), False)
        self.assertEqual(row_between("ax", "dx", chain), ("ax", "bx", "cx", "dx"))
        self.assertIs(are_one("xa", "xc", chain), False)
        self.assertEqual(row_between("xe", "xc", chain), ("xe", "xd", "xc"))
        self.assertEqual(meaning("ee", chain), "ec")
        self.assertEqual(meaning("de", chain), "ac")

    def test_a_shorter_chain_is_taken(self):
        ring = tuple(zip("abcdef", "bcdefa", ["any"] * 6))
        self.assertEqual(row_between("a", "e", ring), ("a", "f", "e"))
        self.assertEqual(len(row_between("ad", "da", ring)), 7)
        self.assertEqual(row_between("c", "c", ring), ("c",))

    def test_twelve_changes_of_one_letter(self):
        self.assertEqual(row_between("m", "l", TWELVE), ("m", "a", "l"))
        self.assertEqual(meaning("mmllnn", TWELVE), "aaaann")

    def test_no_row_is_shorter_and_no_word_left_out(self):
        chance = random.Random(7)
        for _ in range(150):
            changes = some_changes(chance, "abcd", 5)
            length = chance.randint(1, 3)
            word = "".join(chance.choice("abcde") for _ in range(length))
            far = distances(word, changes)
            self.assertEqual(meaning(word, changes), min(far))
            for letters in itertools.product("abcde", repeat=length):
                other = "".join(letters)
                row = row_between(word, other, changes)
                self.assertIs(are_one(word, other, changes), other in far)
                if other in far:
                    self.check_row(row, word, other, changes)
                    self.assertEqual(len(row), far[other] + 1)
                else:
                    self.assertIs(row, None)
                self.assertEqual(row, row_between(word, other, changes))

    def test_meaning_is_the_same_for_all_that_are_one(self):
        chance = random.Random(8)
        for _ in range(100):
            changes = some_changes(chance, "vwxyz", 12)
            word = "".join(chance.choice("vwxyz") for _ in range(chance.randint(1, 4)))
            told = meaning(word, changes)
            for other in distances(word, changes):
                self.assertEqual(meaning(other, changes), told)
            self.assertEqual(meaning(told, changes), told)

    def test_by_place_and_by_name(self):
        changes = (("a", "b", "any"),)
        self.assertEqual(row_between(changes=changes, other="b", word="a"), ("a", "b"))
        self.assertIs(are_one(changes=changes, other="b", word="a"), True)
        self.assertEqual(meaning(changes=changes, word="b"), "a")
        self.assertEqual(meaning("b", changes=changes), "a")

    def test_a_told_row_may_be_handed_in(self):
        changes = (("a", "b", "any"),)
        row = row_between("aa", "bb", changes)
        self.assertEqual([meaning(word, changes) for word in row], ["aa"] * 3)


class TestRefusals(unittest.TestCase):
    def test_what_is_no_word(self):
        for thing in KINDS + (None, True, 0, *OWN):
            for call in (are_one, row_between):
                self.assertIs(refused(self, NoWord, call, thing, "a").word, thing)
                self.assertIs(refused(self, NoWord, call, "a", thing).word, thing)
            self.assertIs(refused(self, NoWord, meaning, thing).word, thing)

    def test_the_first_word_from_the_left_and_words_ahead_of_changes(self):
        for call in (are_one, row_between):
            self.assertEqual(refused(self, NoWord, call, "A", "B", 7).word, "A")
            self.assertEqual(refused(self, NoWord, call, "a", "B", 7).word, "B")
            self.assertIs(refused(self, NoChanges, call, "a", "bb", 7).place, None)
        self.assertEqual(refused(self, NoWord, meaning, "A", 7).word, "A")

    def refused_changes(self, changes):
        places = {
            refused(self, NoChanges, are_one, "a", "a", changes).place,
            refused(self, NoChanges, row_between, "a", "ab", changes=changes).place,
            refused(self, NoChanges, meaning, "a", changes).place,
        }
        self.assertEqual(len(places), 1)
        place = places.pop()
        self.assertNotIsInstance(place, bool)
        return place

    def test_what_is_no_tuple_of_at_most_twelve(self):
        for thing in KINDS + (True, False, 0, *OWN, [("a", "b", "any")], {("a", "b", "any"): 1}):
            if not isinstance(thing, tuple):
                self.assertIs(self.refused_changes(thing), None)
        self.assertIs(self.refused_changes(TWELVE + (("x", "y", "any"),)), None)
        self.assertIs(self.refused_changes((7,) * 13), None)
        self.assertIs(are_one("m", "l", TWELVE), True)

    def test_the_first_that_is_no_change(self):
        good = ("a", "b", "any")
        wrong = (
            ("a", "a", "any"), ("a", "b"), ("a", "b", "any", "any"), ["a", "b", "any"], "aba", None, (), 7, good[::-1],
            ("a", "b", "middle"), ("a", "b", ""), ("a", "b", "Any"), ("a", "b", None), ("a", "b", ["any"]),
            ("", "b", "any"), ("ab", "c", "any"), ("a", "bc", "any"), ("A", "b", "any"), ("a", "", "any"),
            ("a", None, "any"), (1, "b", "any"), ("a", ["b"], "any"), (("a",), "b", "any"), ("a", "b", "first "),
            ("a", "b", ("any",)), ("-", "b", "any"),
        )
        for thing in wrong + tuple(("a", "b", kind) for kind in KINDS) + tuple((kind, "b", "any") for kind in KINDS):
            self.assertEqual(self.refused_changes((thing,)), 0)
            self.assertEqual(self.refused_changes((good, thing)), 1)
            self.assertEqual(self.refused_changes((good,) * 11 + (thing,)), 11)
            self.assertEqual(self.refused_changes((good, thing, thing, good)), 1)

    def test_what_is_handed_in_stays_as_it_was(self):
        wrong = [("a", "b", "any")]
        refused(self, NoChanges, meaning, "a", wrong)
        self.assertEqual(wrong, [("a", "b", "any")])
        changes = (("b", "a", "any"), ("b", "c", "last"))
        row_between("ab", "bc", changes)
        self.assertEqual(changes, (("b", "a", "any"), ("b", "c", "last")))


if __name__ == "__main__":
    unittest.main()
