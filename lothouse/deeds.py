"""Deeds: what is done to lots and ways, as tuples and as texts."""

from lothouse.cells import is_area
from lothouse.errors import NoDeed, NoText
from lothouse.kinds import read_whole
from lothouse.plans import is_name
from lothouse.shares import is_fraction

# What stands behind a deed's word, in its order.
_PARTS = {
    "grant": ("name", "cells", "name"),
    "give": ("name", "name", "name", "fraction"),
    "split": ("name", "name", "cells"),
    "join": ("name", "name"),
    "burden": ("name", "name", "name"),
    "free": ("name", "name"),
    "way": ("name", "cells"),
    "close": ("name",),
}


def _is_part(kind, thing):
    """Whether thing, which may be anything, is a deed's part of that kind."""
    if kind == "cells":
        return is_area(thing)
    if kind == "fraction":
        return is_fraction(thing)
    return is_name(thing)


def is_deed(thing):
    """Whether thing, which may be anything, is a deed."""
    if not isinstance(thing, tuple) or len(thing) == 0 or not isinstance(thing[0], str):
        return False
    kinds = _PARTS.get(thing[0], ())
    if len(kinds) == 0 or len(thing) != len(kinds) + 1:
        return False
    return all([_is_part(kind, part) for kind, part in zip(kinds, thing[1:])])


def _part_text(kind, part):
    """The words of a deed's part."""
    if kind == "cells":
        return " ".join([f"{i}.{j}" for i, j in part])
    if kind == "fraction":
        n, d = part
        return f"{n}/{d}"
    return part


def deed_text(deed):
    """A deed's words with blanks between."""
    if not is_deed(deed):
        raise NoDeed("no deed has no text")
    word = deed[0]
    return " ".join([word, *[_part_text(kind, part) for kind, part in zip(_PARTS[word], deed[1:])]])


def _read_pair(word, sign):
    """The two whole numbers that stand in a word on both sides of a sign, None in the place of what is none."""
    one, _, other = word.partition(sign)
    return read_whole(one), read_whole(other)


def _read_part(kind, words):
    """What the words of a part tell: something that is no such part where they tell nothing."""
    if kind == "cells":
        return tuple([_read_pair(word, ".") for word in words])
    text = " ".join(words)
    return _read_pair(text, "/") if kind == "fraction" else text


def read_deed(text):
    """The deed of which this is the text."""
    words = text.split(" ") if isinstance(text, str) else [""]
    kinds = _PARTS.get(words[0], ())
    # Each part has one word, but cells have all that the others leave.
    spare = len(words) - len(kinds)
    deed = [words[0]]
    at = 1
    for kind in kinds:
        many = spare if kind == "cells" else 1
        deed.append(_read_part(kind, words[at:at + many]))
        at = at + many
    deed = tuple(deed)
    if not is_deed(deed) or deed_text(deed) != text:
        raise NoText(0)
    return deed
