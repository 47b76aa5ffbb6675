"""What several tests share: things of many kinds, and how a refusal is looked at."""

import itertools

from wordlines import errors
from wordlines.gatherings import Gathering
from wordlines.lands import Land
from wordlines.maps import WordMap

BASES = {"WordError": ValueError, "LandError": LookupError, "JoinError": ArithmeticError}

SMALL = Land((("aa", "bb"), (None, "cc")))

# One of each class of the program.
OWN = (SMALL, Gathering(SMALL), WordMap(Gathering(SMALL), "cow"))


class AlikeToAll:
    """A thing that says it is alike to whatever it is compared with."""

    def __eq__(self, other):
        return True

    __hash__ = None


def nested(depth, thing):
    for step in range(depth):
        thing = [thing] if step % 2 else (thing,)
    return thing


# None of these is a WORD, an AGE, a truth, a tuple of changes, a Land's rows, a text of either sort, or of an own class.
KINDS = (
    -1, 121, 10 ** 60, "", "A", "aB", "a b", "a-b", "a1", " a", "a ", "a\n", "abcdefghi", "?", "-", "1",
    b"", b"a", b"aa", [], ["a"], ["a", "b", "any"], ("a",), (("a", "b"), ("c",)), {}, {"a": "b"}, {"a"}, frozenset("a"),
    range(3), object(), AlikeToAll(), len, int, str, lambda thing: True, nested(10, "a"), nested(10, None),
    ValueError("a"), NotImplemented, ...,
)


def gathering_of(*rows, things=("cow",)):
    """A Gathering of a land drawn in rows: `-` a lake, `?` not asked, else the words of a village with `+` between.

    A village is named by the letters of its row and its column; the words are told for each of the things.
    """
    drawn = [row.split() for row in rows]
    names = [[None if part == "-" else "abcdef"[at] + "abcdef"[column] for column, part in enumerate(row)]
             for at, row in enumerate(drawn)]
    gathering = Gathering(Land(tuple(tuple(row) for row in names)))
    for row, parts in zip(names, drawn):
        for name, part in zip(row, parts):
            for number, word in enumerate(part.split("+") if part not in "-?" else ()):
                for thing in things:
                    gathering.put(name, thing, word, "t" + "abcdefgh"[number], 30)
    return gathering


def drawn_map(*rows, changes=None):
    """The map of a land drawn as for gathering_of."""
    return WordMap(gathering_of(*rows), "cow", changes)


def some_rows(chance, parts, most=6):
    """The rows of a drawn land by chance, with at least one village."""
    columns = chance.randint(1, most)
    rows = [" ".join(chance.choice(parts) for _ in range(columns)) for _ in range(chance.randint(1, most))]
    return rows if any(part != "-" for row in rows for part in row.split()) else some_rows(chance, parts, most)


def refusals():
    """All refusals by name, the bases left out."""
    named = {name: thing for name, thing in vars(errors).items() if isinstance(thing, type)}
    return {name: named[name] for name in named if name not in BASES}


def refused(test, kind, call, *args, **named):
    """The refusal that a call ends with, which is of just this kind."""
    with test.assertRaises(kind) as caught:
        call(*args, **named)
    test.assertIs(type(caught.exception), kind)
    return caught.exception


def line_length(wordmap, word, filling):
    """At how many borders one side has the word, told or given by the filling, and the other hasn't."""
    has = set(wordmap.have(word)) | set(filling)
    return len([border for border in wordmap.land.borders() if len(has & set(border)) == 1])


def thin_fillings(wordmap, word):
    """All thin fillings, rising, found by going through all fillings; for small lands."""
    by_length = {}
    unasked = [name for name in wordmap.land.names() if name not in wordmap.asked()]
    for many in range(len(unasked) + 1):
        for filling in itertools.combinations(unasked, many):
            by_length.setdefault(line_length(wordmap, word, filling), []).append(filling)
    return tuple(sorted(by_length[min(by_length)]))


def spoilt(thing, other):
    """All that comes of a thing when one part of it, at any depth, or the whole is put out for another."""
    yield other
    for at, part in enumerate(thing) if isinstance(thing, tuple) else ():
        for made in spoilt(part, other):
            yield thing[:at] + (made,) + thing[at + 1:]


def with_lists(thing):
    """All that comes of a thing when one tuple in it, at any depth, is put out for a list of the same parts."""
    if isinstance(thing, tuple):
        yield list(thing)
        for at, part in enumerate(thing):
            for made in with_lists(part):
                yield thing[:at] + (made,) + thing[at + 1:]


def with_truths(thing):
    """All that comes of a thing when one 0 or 1 in it, at any depth, is put out for False or True."""
    if type(thing) is int and thing in (0, 1):
        yield bool(thing)
    for at, part in enumerate(thing) if isinstance(thing, tuple) else ():
        for made in with_truths(part):
            yield thing[:at] + (made,) + thing[at + 1:]
