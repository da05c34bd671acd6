"""What is asked of things of any kind, in one place for all other files."""


def is_whole(thing):
    """Whether thing is a whole number: Python counts truths as such, the document doesn't."""
    return isinstance(thing, int) and not isinstance(thing, bool)


def is_number(thing):
    """Whether thing is a number as the document means it where it tells nothing else."""
    return is_whole(thing) and -10 ** 9 <= thing <= 10 ** 9


def is_rising(things):
    """Whether each of things, which can be compared, is greater than the one ahead of it."""
    return all([one < other for one, other in zip(things, things[1:])])
