"""What is asked of things of any kind, in one place for all other files."""

_LETTERS = "abcdefghijklmnopqrstuvwxyz"
_FIGURES = "0123456789"


def is_whole(thing):
    """Whether thing is a whole number: Python counts truths as such, the document doesn't."""
    return isinstance(thing, int) and not isinstance(thing, bool)


def is_within(thing, least, most):
    """Whether thing is a whole number from least to most."""
    return is_whole(thing) and least <= thing <= most


def is_number(thing):
    """Whether thing is a number as the document means it where it tells nothing else."""
    return is_within(thing, -10 ** 9, 10 ** 9)


def is_letters(thing, most):
    """Whether thing is a text of 1 to so many small letters."""
    return isinstance(thing, str) and 1 <= len(thing) <= most and all([sign in _LETTERS for sign in thing])


def read_whole(text):
    """The whole number, from 0 on, that a text writes without needless noughts; None of any other text."""
    if len(text) == 0 or not all([sign in _FIGURES for sign in text]):
        return None
    if text[0] == "0" and len(text) > 1:
        return None
    return int(text)


def read_number(text):
    """The whole number, also below 0, that a text writes without needless noughts; None of any other text."""
    if not text.startswith("-"):
        return read_whole(text)
    number = read_whole(text[1:])
    return None if number is None or number == 0 else -number


def is_rising(things):
    """Whether each of things, which can be compared, is greater than the one ahead of it."""
    return all([one < other for one, other in zip(things, things[1:])])
