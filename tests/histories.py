"""Slips by which lots really come to be: for the tests of titles, offices, houses and the judge."""

import random

from lothouse.land import Land
from lothouse.plans import Plan
from lothouse.slips import sealed
from tests.digests import digest

PLAN = Plan(["a", "b", "c", "d"], ["e", "f", "g"])
KEYS = {"king": "crown", "ann": "apple", "bob": "berry", "carl": "cherry"}


def slip_of(hand, number, day, deed, *names):
    """A slip with the right marks of these names."""
    slip = ("slip", hand, number, day, deed, ())
    for name in names:
        slip = sealed(slip, name, KEYS[name], digest)
    return slip


def some_deed(chance, land):
    """A deed that can be done on that land now and then: splits and joins as often as any."""
    lots, people = [*land.lots(), *"lmnop"], ["ann", "bob", "carl"]
    lot, new = chance.choice(lots), chance.choice("lmnopqrstuv")
    one, two = chance.choice(people), chance.choice(people)
    known = land.plan().cells()
    cells = tuple(sorted(chance.sample(known, min(len(known), chance.randrange(1, 4)))))
    own = land.lots()[lot][0][:chance.randrange(1, 3)] if lot in land.lots() else cells
    alike = [other for other, told in land.lots().items() if lot in land.lots() and told[1:] == land.lots()[lot][1:]]
    word = chance.choice(["grant", "give", "split", "split", "join", "join", "burden", "free", "way", "close"])
    return {
        "grant": ("grant", new, cells, one), "give": ("give", lot, one, two, chance.choice([(1, 2), (1, 1), (1, 1)])),
        "split": ("split", lot, new, own), "join": ("join", lot, chance.choice([new, *alike])),
        "burden": ("burden", lot, chance.choice("xy"), one), "free": ("free", lot, chance.choice("xy")),
        "way": ("way", new, cells), "close": ("close", new),
    }[word]


def history(seed, many, plan=PLAN):
    """So many slips, most of them sealed by all who are needed; some can't be done, some are unsealed."""
    chance = random.Random(seed)
    land = Land(plan, "king")
    numbers = dict.fromkeys(KEYS, 0)
    slips, day = [], 1
    while len(slips) < many:
        deed = some_deed(chance, land)
        needed = land.needed(deed)
        day = min(60, day + chance.choice([0, 1, 1, 2]))
        hand = chance.choice(list(KEYS)) if needed is None else chance.choice(needed)
        if needed is None and chance.random() < 0.995:
            continue
        if numbers[hand] < 99:
            numbers[hand] += 1
            names = [*(needed or ()), hand] if chance.random() < 0.95 else [hand]
            slips.append(slip_of(hand, numbers[hand], day, deed, *names))
            # Behind a later hand of the same day the deed may be done otherwise: that is part of what is tried.
            if needed is not None and set(needed) <= set(names):
                land.do(deed)
    return slips
