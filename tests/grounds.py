"""Plain reckoning over small plans, to hold the program's answers against."""

import itertools
import random

from lothouse.plans import Plan

# Lines lie at most so far from the first of their family in the grounds that are tried.
FAR = 16
SMALL = Plan(["a", "b", "c"], ["d", "e"])


def holds(sight, ground):
    """Whether a ground's lines lie as a sight tells."""
    one, other, least, most = sight
    far = ground[other] - ground[one]
    return (least is None or far >= least) and (most is None or far <= most)


def grounds(plan, sights):
    """All grounds by these sights whose lines lie at most FAR from the first."""
    families = [[(0, *rest) for rest in itertools.combinations(range(1, FAR + 1), len(lines) - 1)]
                for lines in (plan.uprights(), plan.levels())]
    lines = [*plan.uprights(), *plan.levels()]
    found = [dict(zip(lines, [*one, *other])) for one, other in itertools.product(*families)]
    return [ground for ground in found if all(holds(sight, ground) for sight in sights)]


def steps_of(plan, sights):
    """All steps as point [21] tells them: each with its start, its end, its worth."""
    found = {}
    for number, (one, other, least, most) in sights.items():
        if most is not None:
            found[number, "most"] = (one, other, most)
        if least is not None:
            found[number, "least"] = (other, one, -least)
    for lines in (plan.uprights(), plan.levels()):
        for k in range(1, len(lines)):
            found[0, lines[k]] = (lines[k], lines[k - 1], -1)
    return found


def ways_of(steps, start, many):
    """All ways of at most so many steps from a line, each with its end and its worth."""
    found = [((), start, 0)]
    newest = found
    for _ in range(many):
        newest = [((*way, step), reach[1], worth + reach[2]) for way, end, worth in newest
                  for step, reach in steps.items() if reach[0] == end]
        found = found + newest
    return found


def some_sights(seed, many):
    """Sights over SMALL, with small numbers, so that many of them bound and some can't be."""
    chance = random.Random(seed)
    sights = {}
    for number in chance.sample(range(1, 201), many):
        one, other = chance.sample(chance.choice(["abc", "abc", "de"]), 2)
        least = chance.choice([None, chance.randrange(-4, 5)])
        most = chance.choice([None, chance.randrange(-4, 7)])
        sights[number] = (one, other, 1 if least is None and most is None else least, most)
    return sights
