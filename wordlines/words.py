"""Words, and which of them are one by changes of letters."""

from wordlines.errors import NoChanges, NoWord

LETTERS = "abcdefghijklmnopqrstuvwxyz"
WHERES = ("first", "last", "any")
LONGEST_WORD = 8
MOST_CHANGES = 12


def is_whole(thing):
    """Whether a thing of any kind is a whole number."""
    return isinstance(thing, int) and not isinstance(thing, bool)


def is_number_from(thing, least, most):
    """Whether a thing of any kind is a whole number from the least to the most."""
    return is_whole(thing) and least <= thing <= most


def is_word(thing):
    """Whether a thing of any kind is a text of one to eight small letters."""
    if not isinstance(thing, str) or not 1 <= len(thing) <= LONGEST_WORD:
        return False
    return all([letter in LETTERS for letter in thing])


def check_word(word):
    """Refuse what is no word."""
    if not is_word(word):
        raise NoWord(word)


def is_letter(thing):
    """Whether a thing of any kind is one small letter."""
    return is_word(thing) and len(thing) == 1


def is_change(thing):
    """Whether a thing of any kind is a tuple (ONE, OTHER, WHERE)."""
    if not isinstance(thing, tuple) or len(thing) != 3:
        return False
    one, other, where = thing
    if not is_letter(one) or not is_letter(other) or one == other:
        return False
    return isinstance(where, str) and where in WHERES


def is_tuple_up_to(thing, most):
    """Whether a thing of any kind is a tuple of at most so many parts."""
    return isinstance(thing, tuple) and len(thing) <= most


def are_changes(thing):
    """Whether a thing of any kind is a tuple of at most twelve changes."""
    return is_tuple_up_to(thing, MOST_CHANGES) and all([is_change(part) for part in thing])


def checked_changes(changes):
    """The tuple of changes that is meant, or a refusal."""
    if changes is None:
        return ()
    if not is_tuple_up_to(changes, MOST_CHANGES):
        raise NoChanges(None)
    for place, change in enumerate(changes):
        if not is_change(change):
            raise NoChanges(place)
    return changes


def reaches(where, place, length):
    """Whether a change of this WHERE may turn the letter at a place of a word so long."""
    if where == "first":
        return place == 0
    if where == "last":
        return place == length - 1
    return True


def turned_letters(changes, place, length):
    """For each letter, those into which one change turns it at this place."""
    turned = {letter: [] for letter in LETTERS}
    for one, other, where in changes:
        if reaches(where, place, length):
            turned[one].append(other)
            turned[other].append(one)
    return turned


def steps_toward(goal, turned):
    """For each letter from which changes lead to the goal, the next on a shortest way there (None for the goal)."""
    toward = {goal: None}
    waiting = [goal]
    at = 0
    while at < len(waiting):
        letter = waiting[at]
        for ahead in turned[letter]:
            if ahead not in toward:
                toward[ahead] = letter
                waiting.append(ahead)
        at += 1
    return toward


def letters_between(one, other, turned):
    """A shortest row of letters from one to the other without the first of them; None where there is none."""
    toward = steps_toward(other, turned)
    if one not in toward:
        return None
    row = []
    letter = toward[one]
    while letter is not None:
        row.append(letter)
        letter = toward[letter]
    return row


def row_between(word, other, changes=None):
    """A shortest row of words from the one to the other, each by one change; None where they aren't one."""
    check_word(word)
    check_word(other)
    known = checked_changes(changes)
    if len(word) != len(other):
        return None
    # No change moves a letter or looks at another one, so shortest ways at each place make a shortest row.
    row = [word]
    for place, goal in enumerate(other):
        letters = letters_between(word[place], goal, turned_letters(known, place, len(word)))
        if letters is None:
            return None
        for letter in letters:
            row.append(other[:place] + letter + word[place + 1:])
    return tuple(row)


def are_one(word, other, changes=None):
    """Whether changes lead from the one word to the other."""
    return row_between(word, other, changes) is not None


def letters_at(word, place, changes):
    """The letters that changes lead to from the one of a word at this place, itself among them, rising."""
    return sorted(list(steps_toward(word[place], turned_letters(changes, place, len(word)))))


def meaning(word, changes=None):
    """Of all words that are one with this one the least."""
    check_word(word)
    known = checked_changes(changes)
    return "".join([letters_at(word, place, known)[0] for place in range(len(word))])
