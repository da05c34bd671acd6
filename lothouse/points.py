"""Points, each so far east of an upright and north of a level: where they lie in one ground and in all grounds."""

from lothouse.errors import NoPoint
from lothouse.kinds import is_number, is_within
from lothouse.plans import Plan


def _is_place(lines, thing):
    """Whether thing, which may be anything, is one of the lines and how far behind it."""
    return isinstance(thing, tuple) and len(thing) == 2 and thing[0] in lines and is_number(thing[1])


def is_point(plan, thing):
    """Whether thing, which may be anything, is a point ((upright, east), (level, north)) of the plan."""
    if not isinstance(plan, Plan) or not isinstance(thing, tuple) or len(thing) != 2:
        return False
    return _is_place(plan.uprights(), thing[0]) and _is_place(plan.levels(), thing[1])


def _band(lines, ground, place):
    """The column or row in which a place lies in a ground."""
    line, off = place
    return len([other for other in lines if ground[other] <= ground[line] + off]) - 1


def lies(plan, ground, point):
    """The column and the row in which a point lies in a ground."""
    if not is_point(plan, point):
        raise NoPoint("the plan has no such point")
    return _band(plan.uprights(), ground, point[0]), _band(plan.levels(), ground, point[1])


def check_point(net, point):
    """Refuses what is no point of the net's plan."""
    if not is_point(net.plan(), point):
        raise NoPoint("the net's plan has no such point")


def _span(net, lines, place):
    """The first and the last of the columns or rows in which a place lies in some ground; NoGround by the net."""
    line, off = place
    # As lines rise, those that the place is behind in all grounds are the first ones, and so are those in some.
    behind_in_all = [other for other in lines if _is_up_to(net.most(line, other), off)]
    beside_in_all = [other for other in lines if _is_from(net.least(line, other), off + 1)]
    return len(behind_in_all) - 1, len(lines) - len(beside_in_all) - 1


def _is_up_to(most, limit):
    """Whether a greatest distance, None where there is none, is at most limit."""
    return most is not None and most <= limit


def _is_from(least, limit):
    """Whether a least distance, None where there is none, is at least limit."""
    return least is not None and least >= limit


def may_lie(net, point):
    """The first and last column, and the first and last row, in which a point lies in some ground."""
    check_point(net, point)
    return _span(net, net.plan().uprights(), point[0]), _span(net, net.plan().levels(), point[1])


def _reaches_in(lines, place, band):
    """What holds, each (start, end, worth), where a place lies in the band of that number."""
    line, off = place
    reaches = []
    if band >= 0:
        reaches.append((line, lines[band], off))
    if band + 1 < len(lines):
        reaches.append((lines[band + 1], line, -1 - off))
    return reaches


def _is_band(lines, thing):
    """Whether thing, which may be anything, is the number of a column or row, those beyond the lines too."""
    return is_within(thing, -1, len(lines) - 1)


def ground_at(net, point, column, row):
    """A ground in which a point lies in that column and row, None where there is none."""
    check_point(net, point)
    uprights = net.plan().uprights()
    levels = net.plan().levels()
    if not _is_band(uprights, column) or not _is_band(levels, row):
        return None
    return net.ground_by([*_reaches_in(uprights, point[0], column), *_reaches_in(levels, point[1], row)])


def _ways_to(net, lines, place, span):
    """The way to the line at which a span begins, and the way from the line behind it: None where there is no such."""
    line, _ = place
    first, last = span
    ahead = None if first == -1 else net.way(line, lines[first])
    behind = None if last == len(lines) - 1 else net.way(lines[last + 1], line)
    return ahead, behind


def bounds(net, point):
    """The columns and rows as may_lie tells them, and four ways which tell that a point lies in no others."""
    columns, rows = may_lie(net, point)
    uprights = net.plan().uprights()
    levels = net.plan().levels()
    ways = (*_ways_to(net, uprights, point[0], columns), *_ways_to(net, levels, point[1], rows))
    return columns, rows, ways


def _is_span(lines, thing):
    """Whether thing, which may be anything, is a first and a last column or row, the first not above the last."""
    if not isinstance(thing, tuple) or len(thing) != 2:
        return False
    return all([_is_band(lines, band) for band in thing]) and thing[0] <= thing[1]


def _bound(net, lines, place, span, ways):
    """Whether the two ways, which may be anything, tell that a place lies in no column or row beyond a span."""
    line, off = place
    first, last = span
    ahead, behind = ways
    if first == -1:
        fits = ahead is None
    else:
        fits = _leads(net, line, lines[first], ahead, off)
    if last == len(lines) - 1:
        return fits and behind is None
    return fits and _leads(net, lines[last + 1], line, behind, -1 - off)


def _leads(net, one, other, thing, limit):
    """Whether thing, which may be anything, is a way from one to other that is worth at most limit."""
    return net.is_way(one, other, thing) and net.worth(thing) <= limit


def is_bounds(net, point, thing):
    """Whether thing, which may be anything, tells as bounds does, if perhaps more widely, where a point lies."""
    check_point(net, point)
    if not isinstance(thing, tuple) or len(thing) != 3:
        return False
    columns, rows, ways = thing
    uprights = net.plan().uprights()
    levels = net.plan().levels()
    if not _is_span(uprights, columns) or not _is_span(levels, rows):
        return False
    if not isinstance(ways, tuple) or len(ways) != 4:
        return False
    return _bound(net, uprights, point[0], columns, ways[:2]) and _bound(net, levels, point[1], rows, ways[2:])
