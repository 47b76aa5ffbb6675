"""The checker: whether a claim is true by its paper. It rests on nothing but words and lands."""

from wordlines.lands import Land, are_land_rows
from wordlines.words import are_changes, is_letter, is_number_from, is_whole, is_word, reaches

SURELY = "surely"
MAY = "may"
NOT = "not"
MOST_UNSURE = 6


def is_tuple_of(thing, many):
    """Whether a thing of any kind is a tuple of so many parts."""
    return isinstance(thing, tuple) and len(thing) == many


def are_words(thing):
    """Whether a thing of any kind is a tuple of words."""
    return isinstance(thing, tuple) and all([is_word(part) for part in thing])


def are_rising_words(thing):
    """Whether a thing of any kind is a tuple of words, each greater than the one ahead."""
    return are_words(thing) and all([ahead < behind for ahead, behind in zip(thing, thing[1:])])


def are_two_words(word, other, changes):
    """Whether things of any kind are two words and changes."""
    return is_word(word) and is_word(other) and are_changes(changes)


def is_one_change(word, other, changes):
    """Whether one change turns a word into the other."""
    if len(word) != len(other):
        return False
    places = [place for place, letter in enumerate(word) if other[place] != letter]
    if len(places) != 1:
        return False
    place = places[0]
    turns = ((word[place], other[place]), (other[place], word[place]))
    return any([(one, two) in turns and reaches(where, place, len(word)) for one, two, where in changes])


def takes_one(told, paper):
    """Whether a paper is a row from a word to another, each by one change."""
    word, other, changes = told
    if not are_two_words(word, other, changes) or not are_words(paper) or len(paper) == 0:
        return False
    if paper[0] != word or paper[-1] != other:
        return False
    return all([is_one_change(ahead, behind, changes) for ahead, behind in zip(paper, paper[1:])])


def leads_out(letters, changes, place, length):
    """Whether a change leads out of the letters at a place of a word so long."""
    here = [(one, two) for one, two, where in changes if reaches(where, place, length)]
    return any([(one in letters) != (two in letters) for one, two in here])


def takes_unlike(told, paper):
    """Whether a paper shows that no changes lead from a word to another."""
    word, other, changes = told
    if not are_two_words(word, other, changes):
        return False
    if len(word) != len(other):
        return paper is None
    if not is_tuple_of(paper, 2):
        return False
    place, letters = paper
    if not is_number_from(place, 0, len(word) - 1):
        return False
    if not are_rising_words(letters) or not all([is_letter(part) for part in letters]):
        return False
    if word[place] not in letters or other[place] in letters:
        return False
    return not leads_out(letters, changes, place, len(word))


class Sketch:
    """A Land, and which of its villages were asked and have a word, and were asked and haven't."""

    def __init__(self, land, having, lacking):
        self.land = land
        self.having = having
        self.lacking = lacking
        self.unasked = tuple([name for name in land.names() if name not in having and name not in lacking])
        self.beside = {name: land.neighbours(name) for name in land.names()}

    def with_one_more(self, name, has):
        """The same where one more village was asked, and has the word or hasn't."""
        if has:
            return Sketch(self.land, (*self.having, name), self.lacking)
        return Sketch(self.land, self.having, (*self.lacking, name))

    def is_unasked(self, thing):
        """Whether a thing of any kind is a village that wasn't asked."""
        return is_word(thing) and thing in self.unasked

    def is_filling(self, thing):
        """Whether a thing of any kind is a rising tuple of villages that weren't asked."""
        return are_rising_words(thing) and all([self.is_unasked(part) for part in thing])

    def length(self, filling):
        """At how many borders one side has the word, asked or by the filling, and the other hasn't."""
        has = (*self.having, *filling)
        return len([name for name, other in self.land.borders() if (name in has) != (other in has)])

    def is_way(self, thing):
        """Whether a thing of any kind is a way from a village that has the word to one that hasn't."""
        if not are_words(thing) or len(thing) == 0:
            return False
        if thing[0] not in self.having or thing[-1] not in self.lacking:
            return False
        if not all([name in self.unasked for name in thing[1:-1]]):
            return False
        return all([other in self.beside[name] for name, other in zip(thing, thing[1:])])

    def are_ways(self, thing):
        """Whether a thing of any kind is a tuple of ways, no border in two of them or twice."""
        if not isinstance(thing, tuple) or not all([self.is_way(part) for part in thing]):
            return False
        crossed = [tuple(sorted(step)) for way in thing for step in zip(way, way[1:])]
        return len(set(crossed)) == len(crossed)

    def is_thin(self, filling, ways):
        """Whether a filling is shown to be thin by as many ways as it is long."""
        return self.is_filling(filling) and self.are_ways(ways) and self.length(filling) == len(ways)


def read_sketch(rows, have, havent):
    """The Sketch of things of any kind, None where they make none."""
    if not are_land_rows(rows) or not are_rising_words(have) or not are_rising_words(havent):
        return None
    land = Land(rows)
    asked = (*have, *havent)
    if not all([name in land.names() for name in asked]) or len(set(asked)) < len(asked):
        return None
    return Sketch(land, have, havent)


def takes_thin(told, paper):
    """Whether a paper shows how long a thin filling is."""
    rows, have, havent, how = told
    sketch = read_sketch(rows, have, havent)
    if sketch is None or not is_whole(how) or not is_tuple_of(paper, 2):
        return False
    filling, ways = paper
    return sketch.is_thin(filling, ways) and len(ways) == how


def takes_fate(told, paper):
    """Whether a paper shows what becomes of a village that wasn't asked."""
    rows, have, havent, name, fate = told
    sketch = read_sketch(rows, have, havent)
    if sketch is None or not sketch.is_unasked(name) or not is_word(fate) or not is_tuple_of(paper, 3):
        return False
    if fate == MAY:
        filling, others, ways = paper
        both = sketch.is_thin(filling, ways) and sketch.is_thin(others, ways)
        return both and name in filling and name not in others
    if fate != SURELY and fate != NOT:
        return False
    filling, ways, more = paper
    # Told the other way about, the village makes each filling longer than a thin one.
    against = sketch.with_one_more(name, fate == NOT)
    return sketch.is_thin(filling, ways) and against.are_ways(more) and len(more) > len(ways)


def drawn_in(starts, beside, barred):
    """The villages that steps lead to from the starts, themselves among them, barred steps left out."""
    drawn = {name: True for name in starts}
    waiting = list(drawn)
    while waiting:
        name = waiting.pop()
        for other in beside[name]:
            if other not in drawn and (name, other) not in barred:
                drawn[other] = True
                waiting.append(other)
    return drawn


class ThinOnes:
    """All thin fillings of a Sketch, by ways that show how long they are.

    A thin line is crossed by each way once, outward, and nowhere else. So a filling is thin just where each step that
    leads out of the villages with the word is a step of a way: others draw the village that they lead to in as well.
    """

    def __init__(self, sketch, ways):
        self.sketch = sketch
        self.outward = {step: True for way in ways for step in zip(way, way[1:])}
        self.inward = {(other, name): True for name, other in self.outward}

    def unsure(self, has, hasnt):
        """The villages in which the thin ones left are unlike, where some were told to be in or out; None of none."""
        inside = drawn_in((*self.sketch.having, *has), self.sketch.beside, self.outward)
        outside = drawn_in((*self.sketch.lacking, *hasnt), self.sketch.beside, self.inward)
        if any([name in outside for name in inside]):
            return None
        return [name for name in self.sketch.unasked if name not in inside and name not in outside]

    def is_ask(self, thing):
        """Whether a thing of any kind is a plan that asks a village."""
        return is_tuple_of(thing, 3) and self.sketch.is_unasked(thing[0])

    def are_known_by(self, plan, many):
        """Whether a thing of any kind is a plan that knows each thin filling by so many asks."""
        waiting = [(plan, (), (), many)]
        while waiting:
            told, has, hasnt, asks = waiting.pop()
            unsure = self.unsure(has, hasnt)
            if unsure is None:
                right = told is None
            elif len(unsure) == 0:
                right = is_tuple_of(told, 0)
            else:
                right = self.is_ask(told) and asks > 0
            if not right:
                return False
            if unsure:
                name, with_it, without = told
                waiting.append((with_it, (*has, name), hasnt, asks - 1))
                waiting.append((without, has, (*hasnt, name), asks - 1))
        return True


def takes_plan(told, paper):
    """Whether a paper is a plan that knows each thin filling by so many asks."""
    rows, have, havent, many = told
    sketch = read_sketch(rows, have, havent)
    if sketch is None or not is_whole(many) or many < 0 or not is_tuple_of(paper, 3):
        return False
    plan, filling, ways = paper
    if not sketch.is_thin(filling, ways):
        return False
    thin_ones = ThinOnes(sketch, ways)
    return len(thin_ones.unsure((), ())) <= MOST_UNSURE and thin_ones.are_known_by(plan, many)


CHECKS = {"one": takes_one, "unlike": takes_unlike, "thin": takes_thin, "fate": takes_fate, "plan": takes_plan}
PARTS = {"one": 4, "unlike": 4, "thin": 5, "fate": 6, "plan": 5}


def holds(claim, paper):
    """Whether a claim is true by its paper, both things of any kind."""
    if not isinstance(claim, tuple) or len(claim) == 0 or not is_word(claim[0]):
        return False
    if claim[0] not in CHECKS or len(claim) != PARTS[claim[0]]:
        return False
    check = CHECKS[claim[0]]
    return check(claim[1:], paper)
