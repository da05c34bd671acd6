"""Digests for the tests: a sound one, and ones that are no digests in some way."""


def digest(text):
    """A whole number from 0 to 10 ** 30 that tells unlike texts apart, as far as the tests go."""
    mark = 7
    for sign in text:
        mark = (mark * 1000003 + ord(sign)) % (10 ** 30 + 1)
    return mark


class Broken(Exception):
    """What the digest below raises."""


def broken(text):
    """Raises an error, whatever it is asked."""
    raise Broken(text)


def never(text):
    """Stands where no digest may be asked."""
    raise AssertionError("a digest was asked for " + text)
