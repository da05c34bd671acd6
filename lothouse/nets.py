"""The net of all sights over a plan: grounds, ways of sights, and rings that tell that there is no ground.

A step leads from a line, its start, to another, its end: in each ground, end's less start's is at most its worth.
"""

from lothouse.errors import NoGround, NoLine, NoPlan, NoSight
from lothouse.kinds import is_whole, is_within
from lothouse.plans import Plan
from lothouse.sights import is_sight

MOST_SIGHTS = 60
LAST_NUMBER = 200


def _is_numbered(sights):
    """Whether sights, which may be anything, is a dict of few enough numbers, whatever these lead to."""
    if not isinstance(sights, dict) or len(sights) > MOST_SIGHTS:
        return False
    return all([is_within(number, 1, LAST_NUMBER) for number in sights])


def _numbered(plan, sights):
    """The sights by their numbers, rising: so that no answer hangs on the order in which they were handed in."""
    if not _is_numbered(sights):
        raise NoSight(0)
    for number in sorted(sights):
        if not is_sight(plan, sights[number]):
            raise NoSight(number)
    return {number: sights[number] for number in sorted(sights)}


def _reaches(sight):
    """The steps that a sight gives, by their words, each as (start, end, worth)."""
    one, other, least, most = sight
    found = {}
    if most is not None:
        found["most"] = (one, other, most)
    if least is not None:
        found["least"] = (other, one, -least)
    return found


def _steps_over(plan, sights):
    """All steps that there are, those of sights by their numbers first, each as (start, end, worth)."""
    steps = {}
    for number, sight in sights.items():
        for word, reach in _reaches(sight).items():
            steps[(number, word)] = reach
    for family in (0, 1):
        lines = plan.lines(family)
        for ahead, line in zip(lines, lines[1:]):
            steps[(0, line)] = (line, ahead, -1)
    return steps


def _one_step_on(best, steps):
    """The ways in best, and those a step longer, where these are worth less than all that are there."""
    found = dict(best)
    for step, (start, end, worth) in steps.items():
        if start in best:
            total = best[start][0] + worth
            if end not in found or total < found[end][0]:
                found[end] = (total, (*best[start][1], step))
    return found


def _ways_from(start, many, steps):
    """For each line to which a way of at most many steps leads: the least worth, and such a way of the fewest steps.

    It ends early where a ring leads back to start: that is one of the fewest steps then.
    """
    best = {start: (0, ())}
    for _ in range(many):
        best = _one_step_on(best, steps)
        if best[start][0] < 0:
            return best
    return best


def _all_ways(plan, steps):
    """The ways from each line. None longer than there are lines is needed: it would pass a line twice."""
    found = {}
    for family in (0, 1):
        lines = plan.lines(family)
        for line in lines:
            found[line] = _ways_from(line, len(lines), steps)
    return found


def _fewest_ring(ways):
    """A ring of the fewest steps, None where no way leads back to its start and is worth less than 0."""
    rings = [best[line][1] for line, best in ways.items() if best[line][0] < 0]
    return min(rings, key=len, default=None)


class Net:
    """The sights over a plan, by their numbers, and what they tell of its lines."""

    def __init__(self, plan, sights):
        if not isinstance(plan, Plan):
            raise NoPlan("a net is over a plan")
        self._plan = plan
        self._sights = _numbered(plan, sights)
        self._steps = _steps_over(plan, self._sights)
        self._ways = _all_ways(plan, self._steps)
        self._ring = _fewest_ring(self._ways)

    def plan(self):
        """The plan."""
        return self._plan

    def sights(self):
        """The sights by their numbers."""
        return dict(self._sights)

    def ring(self):
        """None where there is a ground, else a ring of the fewest steps."""
        return self._ring

    def most(self, one, other):
        """The greatest that other's less one's is in any ground, None where it has no greatest."""
        self._check(one, other)
        return self._best(one, other)[0]

    def least(self, one, other):
        """The least that other's less one's is in any ground, None where it has no least."""
        self._check(one, other)
        back = self._best(other, one)[0]
        return None if back is None else -back

    def way(self, one, other):
        """A way of the fewest steps that is worth as much as most tells, None where that is None."""
        self._check(one, other)
        return self._best(one, other)[1]

    def _are_akin(self, one, other):
        """Whether both lines, which may be anything, are of one family."""
        return self._plan.family(one) == self._plan.family(other)

    def _check(self, one, other):
        """Refuses lines of which nothing can be told, then a net of which there is no ground."""
        if not self._are_akin(one, other):
            raise NoLine(other)
        if self._ring is not None:
            raise NoGround(self._ring)

    def _best(self, start, end):
        """The least worth of all ways from start to end, and such a way: None, None where there is no way."""
        return self._ways[start].get(end, (None, None))

    def ground(self, *, more=()):
        """A ground by the net's sights and more of them, None where there is none."""
        if not isinstance(more, (list, tuple)):
            raise NoSight(0)
        for k, sight in enumerate(more, start=1):
            if not is_sight(self._plan, sight):
                raise NoSight(k)
        return self.ground_by([reach for sight in more for reach in _reaches(sight).values()])

    def ground_by(self, reaches):
        """A ground by the net's sights in which also each (start, end, worth) holds, None where there is none."""
        lines = [*self._plan.uprights(), *self._plan.levels()]
        held = [*self._steps.values(), *reaches]
        ground = {line: 0 for line in lines}
        # Each line goes only as far as it must. Were any still to go on behind so many rounds, a ring would drive it;
        # and without a ring no first line goes: what would drive it leads back to it, by the steps to the line ahead.
        for _ in lines:
            for start, end, worth in held:
                ground[start] = max(ground[start], ground[end] - worth)
        if all([ground[end] - ground[start] <= worth for start, end, worth in held]):
            return ground
        return None

    def is_way(self, one, other, thing):
        """Whether thing, which may be anything, is a way from one line to another."""
        if not self._are_akin(one, other) or not isinstance(thing, tuple):
            return False
        at = one
        for step in thing:
            if not self._is_step(step) or self._steps[step][0] != at:
                return False
            at = self._steps[step][1]
        return at == other

    def _is_step(self, thing):
        """Whether thing, which may be anything, is one of the steps: a truth equals a number, but is none."""
        if not isinstance(thing, tuple) or len(thing) != 2:
            return False
        number, word = thing
        return is_whole(number) and isinstance(word, str) and thing in self._steps

    def is_ring(self, thing):
        """Whether thing, which may be anything, is a way back to where it begins, worth less than 0."""
        if not isinstance(thing, tuple) or len(thing) == 0 or not self._is_step(thing[0]):
            return False
        start = self._steps[thing[0]][0]
        return self.is_way(start, start, thing) and self.worth(thing) < 0

    def is_ground(self, thing):
        """Whether thing, which may be anything, is a ground by the net's sights, its lines in any order."""
        lines = [*self._plan.uprights(), *self._plan.levels()]
        if not isinstance(thing, dict) or len(thing) != len(lines):
            return False
        if not all([line in thing and is_whole(thing[line]) for line in lines]):
            return False
        if not all([thing[self._plan.lines(family)[0]] == 0 for family in (0, 1)]):
            return False
        return all([thing[end] - thing[start] <= worth for start, end, worth in self._steps.values()])

    def worth(self, way):
        """What all steps of a way are worth together."""
        return sum([self._steps[step][2] for step in way])
