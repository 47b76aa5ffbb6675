import random
import unittest

from tests.helper import KINDS, OWN, refused
from wordlines.errors import NoBack, NoGathering, NoText
from wordlines.gatherings import Gathering
from wordlines.gathertexts import read_gathering, show_gathering
from wordlines.lands import Land
from wordlines.landtexts import read_land

LAND = Land((("aa", "b", None), (None, "ccc", "dddddddd")))
FULL = Land(tuple(tuple(row + column for column in "abcdef") for row in "uvwxyz"))
LETTERS = "abcdefghijklmnopqrstuvwxyz"
NO_TEXTS = tuple(thing for thing in KINDS + OWN + (None, True, 0, ()) if not isinstance(thing, str))


def row_of(test, read, text):
    """The number of the row with which a text is refused."""
    row = refused(test, NoText, read, text).row
    test.assertIs(type(row), int)
    return row


def some_gathering():
    gathering = Gathering(LAND)
    gathering.put("dddddddd", "cow", "ku", "ann", 0)
    gathering.put("aa", "pig", "su", "bob", 120, "ida", False)
    gathering.put("aa", "pig", "sau", "ann", 10, "ida")
    gathering.put("b", "pig", "sau", "x", 9, sure=False)
    return gathering


def changed_texts(text):
    """A text with a sign put in, left out, or another one for it, at each place."""
    for at in range(len(text) + 1):
        for sign in " \n.-?a0Z,":
            yield text[:at] + sign + text[at:]
            if at < len(text) and text[at] != sign:
                yield text[:at] + sign + text[at + 1:]
        if at < len(text):
            yield text[:at] + text[at + 1:]


class Texts(unittest.TestCase):
    def check_first_row(self, read, text):
        """What is read is written so; what is refused is refused for its first row that isn't so."""
        try:
            told = read(text)
        except NoText as error:
            rows = text.split("\n")
            self.assertLessEqual(0, error.row)
            self.assertLessEqual(error.row, len(rows))
            # The rows ahead are right, and cut behind the refused one it is the same.
            if error.row < len(rows):
                self.assertEqual(row_of(self, read, "\n".join(rows[:error.row + 1])), error.row)
            if error.row > 0:
                self.check_right_rows(read, rows[:error.row])
        else:
            self.assertEqual(str(told), text)
            self.assertEqual(read(str(told)), told)

    def check_right_rows(self, read, rows):
        try:
            read("\n".join(rows))
        except NoText as error:
            self.assertEqual(error.row, len(rows))


class TestLandTexts(Texts):
    def test_written_and_read_back(self):
        for land in (LAND, FULL, Land((("a",),)), Land(((None,), ("a",))), Land(((None, None, "a"),))):
            read = read_land(str(land))
            self.assertIs(type(read), Land)
            self.assertEqual(read, land)
            self.assertEqual(read.rows, land.rows)
            self.assertEqual(read_land(text=str(land)), land)

    def test_read(self):
        self.assertEqual(read_land("a - b\n- c -").rows, (("a", None, "b"), (None, "c", None)))

    def test_what_is_no_text(self):
        for thing in NO_TEXTS:
            self.assertEqual(row_of(self, read_land, thing), 0)

    def test_blanks_and_line_ends(self):
        for text, row in (
            ("", 0), (" ", 0), ("\n", 0), (" a", 0), ("a ", 0), ("a  b", 0), ("\na", 0), ("a\n", 1), ("a\n\nb", 1),
            ("a b\nc d\n", 2), ("a b\n c d", 1), ("a b\nc d ", 1), ("a b\nc  d", 1), ("a b\nc\nd", 1), ("a bc d", None),
            ("a b\ncd", 1), ("a\tb", 0), ("a\n ", 1), ("a b\r\nc d", 0),
        ):
            if row is None:
                read_land(text)
            else:
                self.assertEqual(row_of(self, read_land, text), row, repr(text))

    def test_parts_that_are_neither(self):
        for part in ("A", "a1", "abcdefghi", "--", "-a", "?", ".", "1", "a.b", "a-b"):
            self.assertEqual(row_of(self, read_land, part), 0)
            self.assertEqual(row_of(self, read_land, f"a b\nc {part}\nd e"), 1)

    def test_another_number_of_parts(self):
        self.assertEqual(row_of(self, read_land, "a b\nc"), 1)
        self.assertEqual(row_of(self, read_land, "a b\nc d\ne f g"), 2)

    def test_a_seventh_part(self):
        self.assertEqual(row_of(self, read_land, "a b c d e f g"), 0)
        self.assertEqual(row_of(self, read_land, "- - - - - - -\n- -"), 0)
        self.assertEqual(row_of(self, read_land, "a b c d e f\nh i j k l m n"), 1)

    def test_a_seventh_row(self):
        self.assertEqual(row_of(self, read_land, "\n".join("abcdefg")), 6)
        self.assertEqual(row_of(self, read_land, "\n".join("abcdefgh")), 6)
        self.assertEqual(row_of(self, read_land, "\n".join("abcdef") + "\n"), 6)
        self.assertEqual(row_of(self, read_land, "\n".join("-------")), 6)
        self.assertEqual(row_of(self, read_land, "\n".join("abcbcdg")), 3)

    def test_a_name_told_ahead(self):
        self.assertEqual(row_of(self, read_land, "a a"), 0)
        self.assertEqual(row_of(self, read_land, "a b\nc a\nA A"), 1)
        self.assertEqual(row_of(self, read_land, "a b\nc d\n- b"), 2)

    def test_lakes_alone(self):
        self.assertEqual(row_of(self, read_land, "-"), 1)
        self.assertEqual(row_of(self, read_land, "- -\n- -\n- -"), 3)
        self.assertEqual(row_of(self, read_land, "\n".join("------")), 6)
        self.assertEqual(row_of(self, read_land, "- -\n- -\n-"), 2)

    def test_texts_changed_anywhere(self):
        for land in (LAND, Land((("a",), (None,))), Land(((None, "ab"),))):
            for text in changed_texts(str(land)):
                self.check_first_row(read_land, text)

    def test_texts_of_few_signs(self):
        chance = random.Random(11)
        for _ in range(4000):
            self.check_first_row(read_land, "".join(chance.choice("ab-  \n") for _ in range(chance.randint(0, 9))))


class TestGatherTexts(Texts):
    def test_written(self):
        self.assertEqual(show_gathering(some_gathering()), "\n".join((
            "aa b -",
            "- ccc dddddddd",
            ".",
            "dddddddd cow ku ann 0 self",
            "aa pig su bob 120 ida ?",
            "aa pig sau ann 10 ida",
            "b pig sau x 9 self ?",
        )))
        self.assertEqual(show_gathering(gathering=Gathering(LAND)), str(LAND) + "\n.")
        self.assertEqual(show_gathering(some_gathering()), str(some_gathering()))

    def test_read_back_alike(self):
        for gathering in (some_gathering(), Gathering(LAND), Gathering(FULL)):
            read = read_gathering(show_gathering(gathering))
            self.assertIs(type(read), Gathering)
            self.assertEqual(read, gathering)
            self.assertEqual(read.tellings(), gathering.tellings())
            self.assertEqual(read.land, gathering.land)
            self.assertEqual(read_gathering(text=show_gathering(gathering)), gathering)

    def test_then_there_is_no_deed_to_take_back(self):
        for gathering in (some_gathering(), Gathering(LAND)):
            read = read_gathering(show_gathering(gathering))
            refused(self, NoBack, read.back)
            self.assertEqual(read, gathering)
            read.put("ccc", "cow", "ku", "ann", 7)
            read.back()
            refused(self, NoBack, read.back)
            self.assertEqual(read.tellings(), gathering.tellings())

    def test_writing_leaves_the_gathering_as_it_was(self):
        gathering = some_gathering()
        show_gathering(gathering)
        self.assertEqual(gathering, some_gathering())
        gathering.back()
        self.assertEqual(len(gathering), 3)

    def test_what_is_no_gathering(self):
        for thing in KINDS + (OWN[0], OWN[2], None, True, 0, (), str(some_gathering())):
            refused(self, NoGathering, show_gathering, thing)

    def test_what_is_no_text(self):
        for thing in NO_TEXTS:
            self.assertEqual(row_of(self, read_gathering, thing), 0)

    def test_the_rows_of_its_land(self):
        for text, row in (
            ("", 0), ("\n.", 0), ("a b\nc\n.", 1), ("a b c d e f g\n.", 0), ("a b\na c\n.", 1), ("A\n.", 0),
            ("\n".join("abcdefg") + "\n.", 6), ("a\n\n.", 1), ("a b\n c\n.", 1),
        ):
            self.assertEqual(row_of(self, read_gathering, text), row, repr(text))

    def test_six_rows_and_the_dot(self):
        text = "\n".join("abcdef") + "\n.\na cow ku ann 3 self"
        self.assertEqual(len(read_gathering(text)), 1)

    def test_a_dot_ahead_of_any_row(self):
        for text in (".", ".\na", ".\na\n.", ".\n.", ".\na cow ku ann 3 self"):
            self.assertEqual(row_of(self, read_gathering, text), 0)

    def test_lakes_alone(self):
        for text, row in (("-\n.", 1), ("- -\n- -\n.", 2), ("-\n.\nA", 1), ("-", 1), ("-\n-", 2), ("- -\n-\n.", 1)):
            self.assertEqual(row_of(self, read_gathering, text), row, repr(text))

    def test_no_dot(self):
        for text, row in (("a", 1), ("a b\nc d", 2), ("\n".join("abcdef"), 6), ("\n".join("abcdefg"), 6), ("a\n", 1),
                          ("a\nA\nb", 1), ("a\na cow ku ann 3 self", 1), ("a\n. ", 1), ("a\n..", 1), ("a .", 0)):
            self.assertEqual(row_of(self, read_gathering, text), row, repr(text))

    def test_rows_that_are_no_tellings(self):
        for row in (
            "", " ", ".", "?", "-", "a", "a cow ku ann 3", "a cow ku ann 3 self self", "a cow ku ann 3 self ? ?",
            "a cow ku ann 3 self??", "a cow ku ann 3 self?", "? a cow ku ann 3 self", "a cow ku ann 3 ?",
            "a cow ku ann 3 ? self", "a cow ku ann self 3", " a cow ku ann 3 self", "a cow ku ann 3 self ",
            "a  cow ku ann 3 self", "a cow ku ann 3 self  ?", "a cow ku ann 3 self ? ", "acow ku ann 3 self",
            "b cow ku ann 3 self", "- cow ku ann 3 self", "A cow ku ann 3 self", "a Cow ku ann 3 self",
            "a cow - ann 3 self", "a cow ku an1 3 self", "a cow ku ann 3 Self", "a cow kukukukuk ann 3 self",
            "a cow ku ann 3 !", "a\tcow ku ann 3 self",
        ):
            self.assertEqual(row_of(self, read_gathering, f"a\n.\n{row}"), 2, row)
            good = "a cow ku bob 3 self"
            self.assertEqual(row_of(self, read_gathering, f"a\n.\n{good}\n{row}\n{good}"), 3, row)

    def test_numbers(self):
        for age in ("0", "1", "9", "10", "99", "100", "119", "120"):
            read = read_gathering(f"a\n.\na cow ku ann {age} self")
            self.assertEqual(read.tellings(), [("a", "cow", "ku", "ann", int(age), "self", True)])
        for age in ("00", "01", "007", "0120", "121", "999", "1000", "-1", "-0", "+3", "3.", "3.0", "1e1", "0x3", "1_0",
                    "three", "", "?", "9" * 9, "9" * 10, "1" * 5000, "0" * 5000):
            self.assertEqual(row_of(self, read_gathering, f"a\n.\na cow ku ann {age} self"), 2, age)

    def test_a_key_that_stands_ahead(self):
        text = "a b\n.\na cow ku ann 3 self\nb cow ku ann 3 self\na cow mu ann 4 self ?\nA"
        self.assertEqual(row_of(self, read_gathering, text), 4)
        self.assertEqual(len(read_gathering("a\n.\na cow ku ann 3 self\na cow ku ann 3 ida\na cow ku bob 3 self")), 3)

    def test_two_hundred_and_one_more(self):
        rows = ["a b", "- c", "."] + [f"a cow ku {one}{other} 3 self" for one in LETTERS[:8] for other in LETTERS[:25]]
        read = read_gathering("\n".join(rows))
        self.assertEqual(len(read), 200)
        self.assertEqual(show_gathering(read), "\n".join(rows))
        self.assertEqual(row_of(self, read_gathering, "\n".join(rows + ["b cow ku ann 3 self"])), 203)
        self.assertEqual(row_of(self, read_gathering, "\n".join(rows + ["b cow ku ann 3 self"] * 2)), 203)
        self.assertEqual(row_of(self, read_gathering, "\n".join(rows + [""])), 203)

    def test_texts_changed_anywhere(self):
        for text in changed_texts(show_gathering(some_gathering())):
            self.check_first_row(read_gathering, text)

    def test_a_blank_put_in_or_left_out_is_refused_in_its_row(self):
        text = show_gathering(some_gathering())
        for at in range(len(text) + 1):
            row = text[:at].count("\n")
            self.assertEqual(row_of(self, read_gathering, text[:at] + " " + text[at:]), row)
            # Two names run together in the first row may be one; then the second row has another number of parts.
            if text[at:at + 1] in ("\n", " ") and at != text.find(" "):
                self.assertEqual(row_of(self, read_gathering, text[:at] + text[at + 1:]), row)
        self.assertEqual(row_of(self, read_gathering, text.replace(" ", "", 1)), 1)


if __name__ == "__main__":
    unittest.main()
