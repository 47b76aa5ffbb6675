"""What is promised over the whole program: the same answers each time, whatever happens elsewhere."""

import itertools
import random
import unittest

from wordlines.ages import age_cut
from wordlines.asking import asks_needed, fillings, plan
from wordlines.bundles import bundles, counts
from wordlines.checker import holds
from wordlines.desk import Desk
from wordlines.errors import NoBack, TooMany
from wordlines.gatherings import Gathering
from wordlines.gathertexts import read_gathering, show_gathering
from wordlines.habits import habit
from wordlines.joins import clashes, joined
from wordlines.lands import Land
from wordlines.landtexts import read_land
from wordlines.lines import parted, parted_by
from wordlines.maps import WordMap, differences
from wordlines.near import apart, farthest, nearest
from wordlines.papers import paper_fate, paper_plan, paper_thin, paper_words
from wordlines.rings import area, places_in, rings
from wordlines.thin import fate, possible, thin
from wordlines.words import are_one, meaning, row_between

ROWS = (("aa", "bb", "cc"), ("dd", None, "ee"), ("ff", "gg", "hh"))
CHANGES = (("u", "o", "last"), ("k", "g", "first"))
THINGS = ("cow", "dog", "pig")
WORDS = ("ku", "go", "mu", "xu")


def or_refusal(call, *args):
    """What a call tells, or how it refuses."""
    try:
        return call(*args)
    except TooMany as error:
        return ("TooMany", error.many)


def map_answers(wordmap):
    """All that is told of a map, by the name of the question."""
    told = {
        "str": str(wordmap), "repr": repr(wordmap), "len": len(wordmap), "asked": wordmap.asked(),
        "all_words": wordmap.all_words(), "parted": parted(wordmap),
    }
    for name in wordmap.land.names():
        told["words", name] = wordmap.words(name)
        told["doubtful", name] = wordmap.doubtful(name)
        told["possible", name] = possible(wordmap, name)
    for word in WORDS:
        about = rings(wordmap, word)
        told["have", word] = wordmap.have(word)
        told["parted_by", word] = parted_by(wordmap, word)
        told["rings", word] = (about, places_in(about), [area(ring) for ring in about])
        told["thin", word] = thin(wordmap, word)
        told["fates", word] = [fate(wordmap, word, name) for name in wordmap.land.names()]
        told["paper_fates", word] = [paper_fate(wordmap, word, name) for name in wordmap.land.names()
                                     if name not in wordmap.asked()]
        for call in (fillings, plan, asks_needed, paper_plan, paper_thin):
            told[call.__name__, word] = or_refusal(call, wordmap, word)
    return told


def questions(gathering):
    """All questions that can be asked of a Gathering, by name."""
    asked = {
        "str": lambda: str(gathering), "repr": lambda: repr(gathering), "len": lambda: len(gathering),
        "tellings": gathering.tellings, "keying": lambda: gathering.tellings(lambda telling: telling[4]),
        "those": lambda: gathering.those(lambda telling: telling[6]), "things": gathering.things,
        "gatherers": gathering.gatherers, "show": lambda: show_gathering(gathering),
        "counts": lambda: counts(gathering, THINGS, CHANGES), "bundles": lambda: bundles(gathering, THINGS, 1),
        "bundles by changes": lambda: bundles(gathering, THINGS, 2, CHANGES),
    }
    for thing, changes in itertools.product(THINGS, ((), CHANGES)):
        asked["map", thing, changes] = lambda thing=thing, changes=changes: map_answers(
            WordMap(gathering, thing, changes))
        asked["young", thing, changes] = lambda thing=thing, changes=changes: map_answers(
            WordMap(gathering, thing, changes, 10, 50))
        asked["age_cut", thing, changes] = lambda thing=thing, changes=changes: age_cut(
            gathering, thing, "ku", "mu", changes)
        asked["habit", thing, changes] = lambda thing=thing, changes=changes: habit(
            gathering, thing, "ku", "mu", changes)
        asked["differences", thing, changes] = lambda thing=thing, changes=changes: differences(
            WordMap(gathering, thing, changes), WordMap(gathering, "cow", changes, most=60))
    for name in gathering.land.names():
        asked["nearest", name] = lambda name=name: nearest(gathering, name, CHANGES)
        asked["farthest", name] = lambda name=name: farthest(gathering, name)
        for other in gathering.land.names():
            asked["apart", name, other] = lambda name=name, other=other: apart(gathering, name, other, CHANGES)
    return asked


def answers(gathering):
    return {name: ask() for name, ask in questions(gathering).items()}


def some_telling(chance, names):
    return (chance.choice(names), chance.choice(THINGS), chance.choice(WORDS), chance.choice(("ann", "bob")),
            chance.randint(0, 120), chance.choice(("self", "ida")), chance.random() < 0.8)


def some_gathering(chance, many=25):
    gathering = Gathering(Land(ROWS))
    put_some(gathering, chance, many)
    return gathering


def put_some(gathering, chance, many):
    """Put in some tellings whose KEYs don't stand, and strike one here and there."""
    keys = {(telling[0], telling[3], telling[1], telling[5]) for telling in gathering.tellings()}
    for number in range(many):
        telling = some_telling(chance, gathering.land.names())
        key = (telling[0], telling[3], telling[1], telling[5])
        if key not in keys:
            gathering.put(*telling)
            keys.add(key)
            if number % 7 == 6:
                gathering.strike(*key)
                keys.discard(key)


class TestTheSameEachTime(unittest.TestCase):
    def test_asked_again_and_in_another_turn(self):
        chance = random.Random(30)
        for _ in range(6):
            gathering = some_gathering(chance)
            first = answers(gathering)
            self.assertEqual(answers(gathering), first)
            asked = list(questions(gathering).items())
            chance.shuffle(asked)
            for name, ask in asked:
                self.assertEqual(ask(), first[name], name)
            self.assertEqual(answers(gathering), first)

    def test_behind_deeds_at_another_gathering(self):
        chance = random.Random(31)
        for _ in range(4):
            gathering = some_gathering(chance)
            # The other one shares the very Land.
            other = Gathering(gathering.land)
            first = answers(gathering)
            for name, ask in questions(gathering).items():
                put_some(other, chance, 1)
                self.assertEqual(ask(), first[name], name)
            other.back()
            self.assertEqual(answers(gathering), first)

    def test_of_a_gathering_that_was_made_alike(self):
        one, other = some_gathering(random.Random(32)), some_gathering(random.Random(32))
        self.assertEqual(one, other)
        self.assertEqual(answers(one), answers(other))

    def test_behind_deeds_that_were_taken_back(self):
        chance = random.Random(33)
        for _ in range(4):
            gathering = some_gathering(chance)
            first = answers(gathering)
            before = len(gathering.tellings())
            gathering.put("aa", "cow", "ku", "zoe", 30)
            gathering.strike(*[gathering.tellings()[0][at] for at in (0, 3, 1, 5)])
            gathering.back()
            gathering.back()
            self.assertEqual(len(gathering), before)
            self.assertEqual(answers(gathering), first)

    def test_questions_are_no_deeds(self):
        gathering = Gathering(Land(ROWS))
        gathering.put("aa", "cow", "ku", "ann", 30)
        answers(gathering)
        gathering.back()
        answers(gathering)
        self.assertRaises(NoBack, gathering.back)


class TestWhatWasMadeStays(unittest.TestCase):
    def test_maps(self):
        chance = random.Random(34)
        for _ in range(4):
            gathering = some_gathering(chance)
            maps = [WordMap(gathering, thing, changes) for thing in THINGS for changes in ((), CHANGES)]
            first = [map_answers(wordmap) for wordmap in maps]
            put_some(gathering, chance, 10)
            gathering.strike(*[gathering.tellings()[0][at] for at in (0, 3, 1, 5)])
            self.assertEqual([map_answers(wordmap) for wordmap in maps], first)
            for _ in range(8):
                gathering.back()
            self.assertEqual([map_answers(wordmap) for wordmap in maps], first)

    def test_joined_gatherings(self):
        chance = random.Random(35)
        one = some_gathering(chance, 12)
        other = Gathering(Land(ROWS))
        for village, thing, word, teller, age, gatherer, sure in some_gathering(chance, 12).tellings():
            other.put(village, thing, word, teller, age, {"self": "eve", "ida": "zoe"}[gatherer], sure)
        together = joined(one, other)
        first = answers(together)
        put_some(one, chance, 6)
        other.back()
        other.back()
        self.assertEqual(answers(together), first)
        ones, others = answers(one), answers(other)
        together.strike(*[together.tellings()[0][at] for at in (0, 3, 1, 5)])
        together.put("aa", "cow", "ku", "zoe", 30)
        self.assertEqual((answers(one), answers(other)), (ones, others))

    def test_read_gatherings(self):
        chance = random.Random(36)
        gathering = some_gathering(chance)
        text = show_gathering(gathering)
        read = read_gathering(text)
        first = answers(read)
        put_some(gathering, chance, 8)
        gathering.back()
        self.assertEqual(answers(read), first)
        self.assertEqual(show_gathering(read), text)
        told = answers(gathering)
        put_some(read, chance, 8)
        self.assertEqual(answers(gathering), told)

    def test_lists_that_were_told_and_spoilt(self):
        gathering = some_gathering(random.Random(37))
        wordmap = WordMap(gathering, "cow")
        first, of_map = answers(gathering), map_answers(wordmap)
        for ask in (gathering.tellings, lambda: gathering.tellings(lambda telling: telling[2]),
                    lambda: gathering.those(lambda telling: True)):
            told = ask()
            self.assertIs(type(told), list)
            self.assertIsNot(ask(), told)
            told.reverse()
            told[0] = None
            del told[1:]
            told.append(("aa", "cow", "xu", "zoe", 1, "self", True))
        self.assertEqual(answers(gathering), first)
        self.assertEqual(map_answers(wordmap), of_map)
        empty = Gathering(Land(ROWS))
        empty.tellings().append("x")
        empty.those(lambda telling: True).append("x")
        self.assertEqual((empty.tellings(), len(empty)), ([], 0))

    def test_rows_told_are_tuples(self):
        def look_at(thing):
            self.assertIn(type(thing), (tuple, str, int, bool, type(None)))
            for part in thing if isinstance(thing, tuple) else ():
                look_at(part)

        gathering = some_gathering(random.Random(38))
        for name, told in answers(gathering).items():
            if name in ("tellings", "keying", "those"):
                self.assertIs(type(told), list)
                look_at(tuple(told))
            elif not isinstance(told, dict):
                look_at(told)


class TestReadBack(unittest.TestCase):
    def test_a_gathering_read_back_tells_all_the_same(self):
        chance = random.Random(39)
        for many in (0, 1, 8, 25, 60):
            gathering = some_gathering(chance, many)
            read = read_gathering(show_gathering(gathering))
            self.assertEqual(read, gathering)
            self.assertEqual(answers(read), answers(gathering))

    def test_a_land_read_back_is_alike(self):
        land = Land(ROWS)
        read = read_land(str(land))
        self.assertEqual(read, land)
        self.assertEqual((read.names(), read.borders(), read.rows), (land.names(), land.borders(), land.rows))


class TestPapers(unittest.TestCase):
    def test_the_checker_takes_all_that_the_house_tells(self):
        chance = random.Random(41)
        for _ in range(6):
            gathering = some_gathering(chance, 20)
            for thing in THINGS:
                told = map_answers(WordMap(gathering, thing, CHANGES))
                papers = [told["paper_thin", word] for word in WORDS]
                papers += [paper for word in WORDS for paper in told["paper_fates", word]]
                papers += [told["paper_plan", word] for word in WORDS if told["paper_plan", word][0] != "TooMany"]
                for claim, paper in papers:
                    self.assertIs(holds(claim, paper), True)
                    self.assertIs(holds(claim, paper), True)

    def test_what_is_told_of_words_goes_together(self):
        words = ("ku", "go", "mu", "xu", "kuu", "u", "o", "kek", "kik")
        for word, other, changes in itertools.product(words, words, (None, (), CHANGES, CHANGES + (("e", "i", "any"),))):
            one = are_one(word, other, changes)
            claim, paper = paper_words(word, other, changes)
            self.assertEqual(one, meaning(word, changes) == meaning(other, changes))
            self.assertEqual(one, row_between(word, other, changes) is not None)
            self.assertEqual(claim[0], "one" if one else "unlike")
            self.assertIs(holds(claim, paper), True)
            # What is told of the one is not taken of its opposite.
            self.assertIs(holds(("unlike" if one else "one", *claim[1:]), paper), False)


class TestDesks(unittest.TestCase):
    ROWS = (
        "map cow", "words aa cow", "parted cow", "line cow ku", "rings cow ku", "thin cow ku", "fate cow ku aa",
        "habit cow ku mu", "apart aa bb", "near aa", "paper cow ku", "one ku go",
    )

    def test_asked_again_in_another_turn_and_behind_rows_at_another_desk(self):
        chance = random.Random(42)
        land = Land(ROWS)
        desk, other = Desk(land), Desk(land)
        for village, thing, word, teller, age, gatherer, sure in some_gathering(chance).tellings():
            desk.say(f"{'put' if sure else 'doubt'} {village} {thing} {word} {teller} {age} {gatherer}")
        desk.say("change k g first")
        first = {row: desk.say(row) for row in self.ROWS}
        for number in range(12):
            other.say(f"put aa cow mu t{'abcdefghijkl'[number]} 30 self")
            other.say(f"change u {'abcdefghijkl'[number]} any")
            for row in chance.sample(self.ROWS, len(self.ROWS)):
                self.assertEqual(desk.say(row), first[row])
        other.say("back")
        self.assertEqual({row: desk.say(row) for row in self.ROWS}, first)


class TestJoinedInAnyTurn(unittest.TestCase):
    def test_three_gatherings(self):
        chance = random.Random(40)
        for number in range(12):
            whole = some_gathering(chance, 40).tellings()
            three = []
            for _ in range(3):
                part = Gathering(Land(ROWS))
                for telling in chance.sample(whole, chance.randint(0, len(whole))):
                    part.put(*telling)
                three.append(part)
            self.assertEqual([clashes(one, other) for one, other in itertools.permutations(three, 2)], [()] * 6)
            all_joined = []
            for one, other, third in itertools.permutations(three):
                all_joined += [joined(joined(one, other), third), joined(one, joined(other, third))]
            for together in all_joined[1:]:
                self.assertEqual(together, all_joined[0])
            if number < 3:
                told = [self.answers_in_no_turn(together) for together in all_joined]
                self.assertEqual(told, [told[0]] * len(told))

    def answers_in_no_turn(self, gathering):
        """The answers that don't hang on the turn in which tellings were put in."""
        told = answers(gathering)
        for name in ("str", "show"):
            del told[name]
        for name in ("tellings", "keying", "those"):
            told[name] = sorted(told[name])
        return told


if __name__ == "__main__":
    unittest.main()
