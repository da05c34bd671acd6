"""Shares: fractions, and holdings whose fractions are one whole together."""

from math import gcd

from lothouse.errors import NoShare
from lothouse.kinds import is_rising, is_whole
from lothouse.plans import is_name

_MOST_HOLDERS = 12


def is_fraction(thing):
    """Whether thing, which may be anything, is a fraction (n, d) in lowest terms, above 0 and at most 1."""
    if not isinstance(thing, tuple) or len(thing) != 2 or not all([is_whole(part) for part in thing]):
        return False
    n, d = thing
    return 1 <= n <= d and gcd(n, d) == 1


def _lowest(n, d):
    """n parts of d, in lowest terms: (0, 1) of none."""
    common = gcd(n, d)
    return n // common, d // common


def _sum(one, other):
    """Two shares together."""
    return _lowest(one[0] * other[1] + other[0] * one[1], one[1] * other[1])


def _rest(one, other):
    """What is left of one share behind another: below 0 where that is greater."""
    return _lowest(one[0] * other[1] - other[0] * one[1], one[1] * other[1])


def _is_part(thing):
    """Whether thing, which may be anything, is a pair of a name and a fraction."""
    return isinstance(thing, tuple) and len(thing) == 2 and is_name(thing[0]) and is_fraction(thing[1])


def is_holding(thing):
    """Whether thing, which may be anything, is a holding: its names rise, its fractions are one whole."""
    if not isinstance(thing, tuple) or not 1 <= len(thing) <= _MOST_HOLDERS:
        return False
    if not all([_is_part(part) for part in thing]) or not is_rising([name for name, _ in thing]):
        return False
    whole = (0, 1)
    for _, share in thing:
        whole = _sum(whole, share)
    return whole == (1, 1)


def sole(name):
    """The holding of one who has all."""
    return ((name, (1, 1)),)


def held(holding, name):
    """The fraction that name has of a holding, None where it has none."""
    for holder, share in holding:
        if holder == name:
            return share
    return None


def passed(holding, giver, taker, part):
    """The holding behind a part of the whole that goes from giver to taker."""
    if not is_name(giver) or not is_name(taker) or giver == taker or not is_fraction(part):
        raise NoShare("a part goes from one name to another")
    shares = {name: share for name, share in holding}
    left = _rest(shares.get(giver, (0, 1)), part)
    if left[0] < 0:
        raise NoShare("the giver hasn't as much")
    shares[giver] = left
    shares[taker] = _sum(shares.get(taker, (0, 1)), part)
    if left[0] == 0:
        del shares[giver]
    if len(shares) > _MOST_HOLDERS:
        raise NoShare("there would be too many holders")
    return tuple(sorted(shares.items()))
