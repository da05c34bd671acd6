"""Slips: deeds as far hands send them, each with its hand, number, day and seals."""

from lothouse.deeds import deed_text, is_deed, read_deed
from lothouse.errors import NoKey, NoSlip, NoText
from lothouse.kinds import is_letters, is_rising, is_within, read_whole
from lothouse.plans import is_name

_MOST_SEALS = 14
_GREATEST_MARK = 10 ** 30


def is_key(thing):
    """Whether thing, which may be anything, is a text of 1 to 20 small letters."""
    return is_letters(thing, 20)


def _is_seal(thing):
    """Whether thing, which may be anything, is a name and a mark."""
    return isinstance(thing, tuple) and len(thing) == 2 and is_name(thing[0]) and is_within(thing[1], 0, _GREATEST_MARK)


def _are_seals(thing):
    """Whether thing, which may be anything, is a tuple of seals, their names rising."""
    if not isinstance(thing, tuple) or len(thing) > _MOST_SEALS or not all([_is_seal(seal) for seal in thing]):
        return False
    return is_rising([name for name, _ in thing])


def is_slip(thing):
    """Whether thing, which may be anything, is a slip ("slip", hand, number, day, deed, seals)."""
    if not isinstance(thing, tuple) or len(thing) != 6:
        return False
    word, hand, number, day, deed, seals = thing
    if word != "slip" or not is_name(hand) or not is_within(number, 1, 99) or not is_within(day, 1, 60):
        return False
    return is_deed(deed) and _are_seals(seals)


def body_text(slip):
    """The text of all of a slip but its seals."""
    if not is_slip(slip):
        raise NoSlip("only a slip has a text")
    _, hand, number, day, deed, _ = slip
    return f"{hand} {number} {day} {deed_text(deed)}"


def slip_text(slip):
    """The text of a slip: its body's, and its seals behind."""
    return " ".join([body_text(slip), *[f"{name}={mark}" for name, mark in slip[5]]])


def _read_seal(word):
    """The name and the mark of a seal's word, None in the place of a mark that is none."""
    name, _, mark = word.partition("=")
    return name, read_whole(mark)


def read_slip(text):
    """The slip of which this is the text."""
    words = text.split(" ") if isinstance(text, str) else []
    body = [word for word in words if "=" not in word]
    # Where words ahead of the deed lack, none are left for it: so that is refused here.
    deed = read_deed(" ".join(body[3:]))
    seals = tuple([_read_seal(word) for word in words if "=" in word])
    slip = ("slip", body[0], read_whole(body[1]), read_whole(body[2]), deed, seals)
    if not is_slip(slip) or slip_text(slip) != text:
        raise NoText(0)
    return slip


def _right_mark(slip, key, digest):
    """The mark that one who has this key sets on a slip."""
    return digest(f"{key} {body_text(slip)}")


def sealed(slip, name, key, digest):
    """The slip with the mark of a name, in an elder one's place."""
    if not is_slip(slip):
        raise NoSlip("only a slip is sealed")
    if not is_name(name) or not is_key(key):
        raise NoKey("a slip is sealed by a name, with its key")
    seals = [seal for seal in slip[5] if seal[0] != name]
    if len(seals) == _MOST_SEALS:
        raise NoSlip("the slip has as many seals as it may")
    return *slip[:5], tuple(sorted([*seals, (name, _right_mark(slip, key, digest))]))


def is_sealed(slip, name, key, digest):
    """Whether what is handed in, anything but digest, is a slip with just the mark of this name and key."""
    if not is_slip(slip) or not is_key(key):
        return False
    marks = [mark for holder, mark in slip[5] if holder == name]
    return len(marks) > 0 and marks[0] == _right_mark(slip, key, digest)


def are_two(one, other):
    """Whether both, which may be anything, are slips of one hand and number with unlike bodies."""
    return is_slip(one) and is_slip(other) and one[1:3] == other[1:3] and one[:5] != other[:5]
