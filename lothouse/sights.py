"""Sights: how far one line lies behind another, at least and at most."""

from lothouse.kinds import is_number
from lothouse.plans import Plan


def are_akin(plan, one, other):
    """Whether one and other, which may be anything, are lines of one family of the plan."""
    return any([one in lines and other in lines for lines in (plan.uprights(), plan.levels())])


def _is_reach(thing):
    """Whether thing may stand as the least or the most of a sight."""
    return thing is None or is_number(thing)


def is_sight(plan, thing):
    """Whether thing, which may be anything, is a sight (one, other, least, most) of the plan."""
    if not isinstance(plan, Plan) or not isinstance(thing, tuple) or len(thing) != 4:
        return False
    one, other, least, most = thing
    if not are_akin(plan, one, other) or one == other:
        return False
    return _is_reach(least) and _is_reach(most) and not (least is None and most is None)
