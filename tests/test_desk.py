import inspect
import random
import unittest
from unittest import mock

from tests.helper import KINDS, OWN, refused
from wordlines.asking import asks_needed
from wordlines.errors import (
    Full, JoinError, LandError, NoAge, NoBack, NoChanges, NoLand, NoName, NoRow, NoTelling, NoWord, Told, TooMany,
    WordError,
)
from wordlines.desk import Desk
from wordlines.gatherings import Gathering
from wordlines.habits import habit
from wordlines.lands import Land
from wordlines.lines import parted, parted_by
from wordlines.maps import WordMap
from wordlines.near import apart, nearest
from wordlines.rings import area, rings
from wordlines.thin import fate, thin
from wordlines.words import row_between

ROWS = (("aa", "bb", "cc"), (None, "dd", "ee"))
LETTERS = "abcdefghijklmnopqrstuvwxyz"

# One row of each kind that a desk takes, in a turn in which none is refused.
EACH = (
    "put aa cow ku ann 30 self", "doubt bb cow mu bob 120 ida", "strike aa ann cow self", "back", "change k g first",
    "one ku gu", "map cow", "words aa cow", "parted cow", "line cow ku", "rings cow ku", "thin cow ku",
    "fate cow ku bb", "asks cow ku", "habit cow ku mu", "apart aa bb", "near aa", "paper cow ku",
)


def desk_of(*said, rows=ROWS):
    """A desk to which rows were said."""
    desk = Desk(Land(rows))
    for row in said:
        desk.say(row)
    return desk


def asked_all(desk):
    """What a desk answers to all sorts of questions."""
    rows = ["map cow", "map pig", "parted cow", "parted pig", "one ku go", "one ku gu", "near aa", "near bb", "near cc"]
    rows += [f"{ask} {thing} {word}" for ask in ("line", "rings", "thin", "paper")
             for thing in ("cow", "pig") for word in ("ku", "mu")]
    rows += [f"words {name} {thing}" for name in ("aa", "bb", "cc", "dd", "ee") for thing in ("cow", "pig")]
    rows += [f"apart {name} {other}" for name in ("aa", "bb", "cc") for other in ("aa", "dd", "ee")]
    rows += [f"fate cow ku {name}" for name in ("aa", "bb", "cc", "dd", "ee")] + ["asks cow ku", "habit cow ku mu"]
    return [desk.say(row) for row in rows]


class TestDeeds(unittest.TestCase):
    def test_put(self):
        desk = desk_of()
        self.assertEqual(desk.say("put aa cow ku ann 30 self"), "ok")
        self.assertEqual(desk.say("words aa cow"), "ku:30:30:1")
        self.assertEqual(desk.say("put aa cow ku bob 0 ida"), "ok")
        self.assertEqual(desk.say("put aa cow mu bob 120 self"), "ok")
        self.assertEqual(desk.say("words aa cow"), "ku:0:30:2 mu:120:120:1")

    def test_doubt(self):
        desk = desk_of("put bb cow mu ann 30 self")
        self.assertEqual(desk.say("doubt aa cow ku ann 30 self"), "ok")
        self.assertEqual(desk.say("words aa cow"), "none")
        self.assertEqual(desk.say("map cow"), "? mu ? / - ? ?")
        refused(self, Told, desk.say, "put aa cow ku ann 30 self")
        self.assertEqual(desk.say("strike aa ann cow self"), "ok")
        self.assertEqual(desk.say("put aa cow ku ann 30 self"), "ok")

    def test_strike(self):
        desk = desk_of("put aa cow ku ann 30 self", "put aa cow mu ann 30 ida", "put bb cow mu ann 30 self")
        self.assertEqual(desk.say("strike aa ann cow ida"), "ok")
        self.assertEqual(desk.say("map cow"), "ku mu ? / - ? ?")
        self.assertEqual(refused(self, NoTelling, desk.say, "strike aa ann cow ida").key, ("aa", "ann", "cow", "ida"))

    def test_back(self):
        desk = desk_of("put aa cow ku ann 30 self", "put bb cow mu ann 30 self", "strike aa ann cow self")
        self.assertEqual(desk.say("map cow"), "? mu ? / - ? ?")
        for shown in ("ku mu ? / - ? ?", "ku ? ? / - ? ?", "? ? ? / - ? ?"):
            self.assertEqual(desk.say("back"), "ok")
            self.assertEqual(desk.say("map cow"), shown)
        refused(self, NoBack, desk.say, "back")

    def test_change(self):
        desk = desk_of("put aa cow ku ann 30 self", "put bb cow go ann 30 self")
        self.assertEqual(desk.say("one ku go"), "no")
        self.assertEqual(desk.say("change k g first"), "ok")
        self.assertEqual(desk.say("one ku gu"), "ku > gu")
        self.assertEqual(desk.say("one ku go"), "no")
        self.assertEqual(desk.say("change o u last"), "ok")
        self.assertIn(desk.say("one ku go"), ("ku > gu > go", "ku > ko > go"))
        self.assertEqual(desk.say("change a e any"), "ok")
        self.assertEqual(desk.say("one mama mema"), "mama > mema")
        self.assertEqual(desk.say("map cow"), "go go ? / - ? ?")

    def test_changes_stay_when_deeds_are_taken_back(self):
        desk = desk_of("put aa cow ku ann 30 self", "change k g first")
        self.assertEqual(desk.say("back"), "ok")
        self.assertEqual(desk.say("one ku gu"), "ku > gu")
        self.assertEqual(desk.say("map cow"), "? ? ? / - ? ?")
        refused(self, NoBack, desk.say, "back")
        self.assertEqual(desk.say("one ku gu"), "ku > gu")

    def test_changes_up_to_the_thirteenth(self):
        desk = desk_of()
        for number in range(12):
            self.assertEqual(desk.say(f"change {LETTERS[number]} {LETTERS[number + 1]} any"), "ok")
        self.assertEqual(desk.say("one a m"), " > ".join("abcdefghijklm"))
        for row in ("change m n any", "change a b any", "change a a any"):
            self.assertIs(refused(self, NoChanges, desk.say, row).place, None)
        self.assertEqual(desk.say("one a n"), "no")
        self.assertEqual(desk.say("one a m"), " > ".join("abcdefghijklm"))

    def test_changes_as_these_would_be(self):
        desk = desk_of()
        self.assertEqual(refused(self, NoChanges, desk.say, "change a a any").place, 0)
        desk.say("change a b any")
        desk.say("change a b any")
        self.assertEqual(refused(self, NoChanges, desk.say, "change k k first").place, 2)
        self.assertEqual(desk.say("change k g first"), "ok")
        self.assertEqual(refused(self, NoChanges, desk.say, "change z z last").place, 3)
        self.assertEqual(desk.say("one ak bg"), "no")
        self.assertEqual(desk.say("one ka gb"), "ka > ga > gb")

    def test_two_desks_keep_apart(self):
        land = Land(ROWS)
        one, other = Desk(land), Desk(land)
        one.say("put aa cow ku ann 30 self")
        one.say("change k g first")
        self.assertEqual(other.say("map cow"), "? ? ? / - ? ?")
        self.assertEqual(other.say("one ku gu"), "no")
        refused(self, NoBack, other.say, "back")
        self.assertEqual(land, Land(ROWS))


class TestQuestions(unittest.TestCase):
    def setUp(self):
        self.desk = desk_of(
            "put aa cow ku ann 70 self", "put bb cow ku bob 20 self", "put bb cow mu cid 30 ida",
            "put cc cow mu dan 40 ida", "doubt dd cow ku eve 50 self", "put aa pig su ann 70 self",
            "put bb pig fu bob 20 self", "put cc pig su dan 40 ida")

    def test_one(self):
        self.assertEqual(self.desk.say("one ku ku"), "ku")
        self.assertEqual(self.desk.say("one ku mu"), "no")
        self.assertEqual(self.desk.say("one ku kuu"), "no")

    def test_map(self):
        self.assertEqual(self.desk.say("map cow"), "ku ku+mu mu / - ? ?")
        self.assertEqual(self.desk.say("map pig"), "su fu su / - ? ?")
        self.assertEqual(self.desk.say("map hen"), "? ? ? / - ? ?")
        self.assertEqual(desk_of(rows=(("aa",),)).say("map cow"), "?")

    def test_words(self):
        self.assertEqual(self.desk.say("words bb cow"), "ku:20:20:1 mu:30:30:1")
        self.assertEqual(self.desk.say("words aa pig"), "su:70:70:1")
        self.assertEqual(self.desk.say("words dd cow"), "none")
        self.assertEqual(self.desk.say("words aa hen"), "none")
        self.desk.say("put aa cow gu zoe 5 self")
        self.desk.say("change k g first")
        self.assertEqual(self.desk.say("words aa cow"), "gu:5:70:2")

    def test_parted(self):
        self.assertEqual(self.desk.say("parted cow"), "none")
        self.assertEqual(self.desk.say("parted pig"), "aa-bb bb-cc")
        self.desk.say("change s f first")
        self.assertEqual(self.desk.say("parted pig"), "none")

    def test_line(self):
        self.assertEqual(self.desk.say("line cow ku"), "bb-cc")
        self.assertEqual(self.desk.say("line cow mu"), "aa-bb")
        self.assertEqual(self.desk.say("line pig fu"), "aa-bb bb-cc")
        self.assertEqual(self.desk.say("line cow xu"), "none")
        self.desk.say("change m k first")
        self.assertEqual(self.desk.say("line cow ku"), "none")

    def test_rings(self):
        self.assertEqual(self.desk.say("rings cow ku"), "2")
        self.assertEqual(self.desk.say("rings pig su"), "1 1")
        self.assertEqual(self.desk.say("rings cow xu"), "none")
        rows = (("aa", "bb", "cc"), ("dd", None, "ee"), ("ff", "gg", "hh"))
        desk = desk_of(*[f"put {name} cow ku ann 30 self" for row in rows for name in row if name], rows=rows)
        self.assertEqual(desk.say("rings cow ku"), "9 -1")

    def test_thin(self):
        self.assertEqual(self.desk.say("thin cow ku"), "2")
        self.assertEqual(self.desk.say("thin cow xu"), "0")

    def test_fate(self):
        self.assertEqual([self.desk.say(f"fate cow ku {name}") for name in ("aa", "cc", "dd", "ee")],
                         ["has", "not", "may", "may"])
        desk = desk_of("put aa cow ku ann 30 self", "put cc cow ku bob 30 self")
        self.assertEqual([desk.say(f"fate cow ku {name}") for name in ("aa", "bb")], ["has", "surely"])

    def test_asks(self):
        self.assertEqual(self.desk.say("asks cow ku"), "2")
        self.assertEqual(self.desk.say("asks cow xu"), "0")

    def test_habit(self):
        self.assertEqual(self.desk.say("habit cow ku mu"), "may self ida")
        self.assertEqual(self.desk.say("habit cow mu ku"), "may ida self")
        self.assertEqual(self.desk.say("habit cow ku xu"), "none")
        self.assertEqual(self.desk.say("habit pig su fu"), "not self")
        self.desk.say("put dd cow mu dan 40 eve")
        self.desk.say("put dd cow ku dot 40 bea")
        self.assertEqual(self.desk.say("habit cow ku mu"), "may bea,self eve,ida")
        self.desk.say("put aa cow mu ann 70 ida")
        self.assertEqual(self.desk.say("habit cow ku mu"), "shown aa ann")

    def test_habit_by_changes(self):
        self.assertEqual(self.desk.say("habit cow gu mu"), "none")
        self.desk.say("change k g first")
        self.assertEqual(self.desk.say("habit cow gu mu"), "may self ida")
        self.desk.say("change m k first")
        self.assertEqual(refused(self, NoWord, self.desk.say, "habit cow gu mu").word, "mu")

    def test_apart(self):
        self.assertEqual(self.desk.say("apart aa bb"), "1/2")
        self.assertEqual(self.desk.say("apart aa cc"), "1/2")
        self.assertEqual(self.desk.say("apart aa aa"), "0/2")
        self.assertEqual(self.desk.say("apart aa dd"), "-")
        self.assertEqual(self.desk.say("apart dd dd"), "-")
        self.desk.say("change s f first")
        self.assertEqual(self.desk.say("apart aa bb"), "0/2")

    def test_near(self):
        self.assertEqual(self.desk.say("near aa"), "bb cc")
        self.assertEqual(self.desk.say("near dd"), "none")
        self.desk.say("change s f first")
        self.assertEqual(self.desk.say("near aa"), "bb")

    def test_paper(self):
        for row in ("paper cow ku", "paper cow mu", "paper cow xu", "paper hen ku"):
            self.assertEqual(self.desk.say(row), "holds")

    def test_a_paper_that_the_checker_does_not_take(self):
        with mock.patch("wordlines.desk.paper_thin", lambda wordmap, word: (("thin",), ())):
            self.assertEqual(self.desk.say("paper cow ku"), "no")
        self.assertEqual(self.desk.say("paper cow ku"), "holds")

    def test_each_answer_is_a_text(self):
        desk = desk_of()
        for row in EACH:
            self.assertIs(type(desk.say(row)), str)

    def test_by_place_and_by_name(self):
        desk = Desk(land=Land(ROWS))
        self.assertEqual(desk.say(row="map cow"), "? ? ? / - ? ?")
        self.assertEqual(list(inspect.signature(Desk).parameters), ["land"])
        self.assertEqual(list(inspect.signature(desk.say).parameters), ["row"])

    def test_against_the_functions(self):
        chance = random.Random(70)
        for _ in range(25):
            land = Land(ROWS)
            desk, gathering, changes = Desk(land), Gathering(land), ()
            for _ in range(chance.randint(0, 25)):
                self.one_more(chance, desk, gathering)
                if chance.random() < 0.1 and len(changes) < 12:
                    change = (*chance.sample("gkmuo", 2), chance.choice(("first", "last", "any")))
                    changes += (change,)
                    self.assertEqual(desk.say("change " + " ".join(change)), "ok")
            self.look_at(desk, gathering, changes)

    def one_more(self, chance, desk, gathering):
        """Do one more deed, at the desk and at the Gathering, which both refuse it or neither."""
        village, teller, thing, gatherer = (
            chance.choice(names.split()) for names in ("aa bb cc dd ee zz", "ann bob", "cow pig", "self ida"))
        deed = chance.choice(("put", "put", "put", "put", "doubt", "strike", "back"))
        word, age = chance.choice(("ku", "go", "mu", "xu")), chance.choice((0, 30, 120, 121))
        if deed in ("put", "doubt"):
            row = f"{deed} {village} {thing} {word} {teller} {age} {gatherer}"
            self.both(desk, row, gathering.put, village, thing, word, teller, age, gatherer, deed == "put")
        elif deed == "strike":
            row = f"strike {village} {teller} {thing} {gatherer}"
            self.both(desk, row, gathering.strike, village, teller, thing, gatherer)
        else:
            self.both(desk, "back", gathering.back)

    def both(self, desk, row, deed, *args):
        try:
            deed(*args)
        except (WordError, LandError, JoinError) as error:
            told = refused(self, type(error), desk.say, row)
            self.assertEqual(vars(told), vars(error))
        else:
            self.assertEqual(desk.say(row), "ok")

    def look_at(self, desk, gathering, changes):
        def listed(parts):
            return " ".join(parts) or "none"

        names = gathering.land.names()
        for thing in ("cow", "pig", "hen"):
            wordmap = WordMap(gathering, thing, changes)
            self.assertEqual(desk.say(f"map {thing}"), " / ".join(str(wordmap).split("\n")))
            self.assertEqual(desk.say(f"parted {thing}"), listed("-".join(border) for border in parted(wordmap)))
            for name in names:
                rows = [":".join(str(part) for part in row) for row in wordmap.words(name)]
                self.assertEqual(desk.say(f"words {name} {thing}"), listed(rows))
            for word in ("ku", "mu", "xu"):
                borders = ["-".join(border) for border in parted_by(wordmap, word)]
                self.assertEqual(desk.say(f"line {thing} {word}"), listed(borders))
                areas = [str(area(ring)) for ring in rings(wordmap, word)]
                self.assertEqual(desk.say(f"rings {thing} {word}"), listed(areas))
                self.assertEqual(desk.say(f"thin {thing} {word}"), str(thin(wordmap, word)[0]))
                self.assertEqual(desk.say(f"asks {thing} {word}"), str(asks_needed(wordmap, word)))
                self.assertEqual(desk.say(f"paper {thing} {word}"), "holds")
                for name in names:
                    self.assertEqual(desk.say(f"fate {thing} {word} {name}"), fate(wordmap, word, name))
                row = row_between("go", word, changes)
                self.assertEqual(desk.say(f"one go {word}"), " > ".join(row) if row else "no")
                self.both_tell(desk, f"habit {thing} go {word}", gathering, thing, "go", word, changes)
        for name in names:
            self.assertEqual(desk.say(f"near {name}"), listed(nearest(gathering, name, changes)))
            for other in names:
                share = apart(gathering, name, other, changes)
                shown = "/".join(str(part) for part in share) if share else "-"
                self.assertEqual(desk.say(f"apart {name} {other}"), shown)

    def both_tell(self, desk, row, *args):
        try:
            told = habit(*args)
        except NoWord as error:
            self.assertEqual(refused(self, NoWord, desk.say, row).word, error.word)
        else:
            shown = [part if isinstance(part, str) else ",".join(part) for part in told]
            self.assertEqual(desk.say(row), " ".join(shown))


class TestNoRow(unittest.TestCase):
    def setUp(self):
        self.desk = desk_of("put aa cow ku ann 30 self", "change u o last", "put bb cow mu ann 30 self")
        self.before = asked_all(self.desk)

    def none(self, row):
        self.assertIs(refused(self, NoRow, self.desk.say, row).row, row)

    def tearDown(self):
        """What was refused has changed nothing, and is no deed."""
        self.assertEqual(asked_all(self.desk), self.before)
        self.desk.say("back")
        self.assertEqual(self.desk.say("map cow"), "ko ? ? / - ? ?")

    def test_what_is_no_text(self):
        for thing in KINDS + OWN + (None, True, 0, (), ("back",), ["map", "cow"], b"back", b"map cow"):
            self.none(thing)

    def test_a_word_more_or_less(self):
        for row in EACH:
            words = row.split(" ")
            self.none(row + " aa")
            self.none(row + " 1")
            self.none(row + " self")
            if len(words) > 1:
                self.none(" ".join(words[:-1]))
                self.none(words[0])
            for at in range(1, len(words)):
                self.none(" ".join(words[:at] + words[at:at + 1] + words[at:]))

    def test_two_blanks_together_and_one_at_an_end(self):
        for row in EACH:
            self.none(" " + row)
            self.none(row + " ")
            words = row.split(" ")
            for at in range(1, len(words)):
                self.none(" ".join(words[:at]) + "  " + " ".join(words[at:]))

    def test_an_empty_row_and_blanks_alone(self):
        for row in ("", " ", "  ", "\n"):
            self.none(row)

    def test_other_signs_between(self):
        for row in EACH:
            self.none(row + "\n")
            self.none("\n" + row)
            if " " in row:
                self.none(row.replace(" ", "\n", 1))
                self.none(row.replace(" ", ","))
                self.none(row.replace(" ", "_", 1))

    def test_another_word_first(self):
        for row in EACH:
            words = row.split(" ")
            for word in ("", "say", "Put", words[0].upper(), words[0] + "s", words[0][:-1], "-", "1"):
                self.none(" ".join([word] + words[1:]))
        for row in ("far aa", "nearest aa", "plan cow ku", "joined", "tellings", "land", "possible aa cow", "ok", "."):
            self.none(row)

    def test_what_is_no_word(self):
        for row in EACH:
            words = row.split(" ")
            for at, word in enumerate(words):
                if at == 0 or word.isdigit() or words[0] == "change":
                    continue
                for wrong in ("Aa", "a1", "1", "0", "-", "?", ".", "abcdefghi", "a-b", "aa,bb", "'aa'", "AA", "aa\n"):
                    self.none(" ".join(words[:at] + [wrong] + words[at + 1:]))

    def test_what_is_no_number(self):
        for deed in ("put", "doubt"):
            for wrong in ("030", "00", "01", "1234567890", "0000000000", "-1", "+1", "1.0", "1e2", "x", "a", "3 0", "1_0",
                          "0x1", "", "?", "30?", "\u0663", "\u00b2"):
                self.none(f"{deed} cc cow ku ann {wrong} self")

    def test_what_is_no_letter_and_no_where(self):
        for wrong in ("ab", "A", "1", "-", "?", "aa", "\n"):
            self.none(f"change {wrong} b any")
            self.none(f"change a {wrong} any")
        for wrong in ("First", "some", "firs", "firstt", "an", "a", "0", "middle", "-", "any\n"):
            self.none(f"change a b {wrong}")

    def test_what_is_no_row_comes_ahead_of_all_else(self):
        for row in ("put zz cow ku ann 030 self", "put zz cow Ku ann 121 self", "strike zz ann cow Self",
                    "change a a some", "words zz Cow", "apart zz Yy", "fate cow ku Zz"):
            self.none(row)


class TestRefusedAsTheFunctions(unittest.TestCase):
    def setUp(self):
        self.desk = desk_of("put aa cow ku ann 30 self", "change u o last", "put bb cow mu ann 30 self")
        self.before = asked_all(self.desk)

    def tearDown(self):
        self.assertEqual(asked_all(self.desk), self.before)

    def test_no_name(self):
        for row in ("put zz cow ku ann 30 self", "put ku cow ku ann 999 self", "doubt zz cow ku ann 30 self",
                    "words zz cow", "fate cow ku zz", "apart zz aa", "apart aa zz", "near zz", "near self"):
            name = [word for word in row.split(" ") if word in ("zz", "ku", "self")]
            told = refused(self, NoName, self.desk.say, row).name
            self.assertIn(told, name)
        self.assertEqual(refused(self, NoName, self.desk.say, "apart yy zz").name, "yy")
        self.assertEqual(refused(self, NoName, self.desk.say, "put zz cow ku ann 999 self").name, "zz")

    def test_no_age(self):
        for deed in ("put", "doubt"):
            for age in (121, 999, 123456789):
                self.assertEqual(refused(self, NoAge, self.desk.say, f"{deed} cc cow ku ann {age} self").age, age)

    def test_told(self):
        for deed in ("put", "doubt"):
            key = refused(self, Told, self.desk.say, f"{deed} aa cow mu ann 30 self").key
            self.assertEqual(key, ("aa", "ann", "cow", "self"))

    def test_no_telling(self):
        for row in ("strike aa ann cow ida", "strike zz ann cow self", "strike aa bob cow self", "strike aa ann pig self"):
            self.assertEqual(refused(self, NoTelling, self.desk.say, row).key, tuple(row.split(" ")[1:]))

    def test_no_word_of_a_habit(self):
        self.assertEqual(refused(self, NoWord, self.desk.say, "habit cow ku ko").word, "ko")
        self.assertEqual(refused(self, NoWord, self.desk.say, "habit cow ku ku").word, "ku")

    def test_no_changes(self):
        self.assertEqual(refused(self, NoChanges, self.desk.say, "change a a any").place, 1)


class TestMoreRefusals(unittest.TestCase):
    def test_full(self):
        desk = desk_of(*[f"put aa cow ku {LETTERS[number // 26]}{LETTERS[number % 26]} 30 self" for number in range(200)])
        for deed in ("put", "doubt"):
            self.assertEqual(refused(self, Full, desk.say, f"{deed} aa cow ku zz 30 self").many, 200)
        self.assertEqual(desk.say("words aa cow"), "ku:30:30:200")

    def test_too_many(self):
        desk = desk_of(rows=(("aa", "bb", "cc", "dd"), ("ee", "ff", "gg", None)))
        self.assertEqual(refused(self, TooMany, desk.say, "asks cow ku").many, 7)
        self.assertEqual(desk.say("paper cow ku"), "holds")
        desk.say("put aa cow ku ann 30 self")
        self.assertEqual(desk.say("asks cow ku"), "0")

    def test_no_back(self):
        refused(self, NoBack, desk_of().say, "back")
        refused(self, NoBack, desk_of("change a b any").say, "back")

    def test_no_land(self):
        for thing in KINDS + OWN[1:] + (None, True, 0, (), ROWS, "aa", str(Land(ROWS))):
            self.assertIs(refused(self, NoLand, Desk, thing).place, None)


if __name__ == "__main__":
    unittest.main()
