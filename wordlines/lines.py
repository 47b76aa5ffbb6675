"""Lines: the borders at which neighbours part."""

from wordlines.maps import check_map


def both_asked(wordmap, pair):
    """Whether both of two villages were asked."""
    name, other = pair
    return len(wordmap.said[name]) > 0 and len(wordmap.said[other]) > 0


def do_part(wordmap, pair):
    """Whether both of two villages were asked and have no word in common."""
    name, other = pair
    common = [word for word in wordmap.said[name] if word in wordmap.said[other]]
    return both_asked(wordmap, pair) and len(common) == 0


def parted(wordmap):
    """The borders at which neighbours have no word in common, rising."""
    check_map(wordmap)
    return tuple([border for border in wordmap.land.borders() if do_part(wordmap, border)])


def parted_by(wordmap, word):
    """The borders at which just one of the neighbours has a word, rising."""
    check_map(wordmap)
    have = wordmap.have(word)
    asked = [border for border in wordmap.land.borders() if both_asked(wordmap, border)]
    return tuple([(name, other) for name, other in asked if (name in have) != (other in have)])
