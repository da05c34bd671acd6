"""Regions of a plan, and the pieces in which they lie."""

from lothouse.kinds import is_rising, is_within
from lothouse.plans import Plan

# The greatest column and row of the greatest plans.
_GREATEST = 6


def is_cell(thing):
    """Whether thing, which may be anything, is a cell of some plan."""
    return isinstance(thing, tuple) and len(thing) == 2 and all([is_within(part, 0, _GREATEST) for part in thing])


def is_area(thing):
    """Whether thing, which may be anything, is a region of some plan: a rising tuple of one or more cells."""
    if not isinstance(thing, tuple) or len(thing) == 0:
        return False
    return all([is_cell(cell) for cell in thing]) and is_rising(thing)


def is_region(plan, thing):
    """Whether thing, which may be anything, is a region of the plan."""
    if not isinstance(plan, Plan) or not is_area(thing):
        return False
    known = plan.cells()
    return all([cell in known for cell in thing])


def is_piece(plan, thing):
    """Whether thing, which may be anything, is a region of the plan that hangs together."""
    return is_region(plan, thing) and len(pieces(thing)) == 1


def _piece_from(start, cells):
    """All of the cells that one comes to from start, from side to side, rising."""
    found = [start]
    waiting = [start]
    while len(waiting) > 0:
        i, j = waiting.pop()
        for cell in ((i - 1, j), (i + 1, j), (i, j - 1), (i, j + 1)):
            if cell in cells and cell not in found:
                found.append(cell)
                waiting.append(cell)
    return tuple(sorted(found))


def pieces(cells):
    """The rising list of the greatest pieces that a region has."""
    found = []
    rest = cells
    while len(rest) > 0:
        piece = _piece_from(rest[0], rest)
        found.append(piece)
        rest = less(rest, piece)
    # The least cell that is left begins each piece, so the pieces rise as they are found.
    return found


def both(one, other):
    """The cells that one of two regions has, rising."""
    return tuple(sorted([*one, *less(other, one)]))


def less(one, other):
    """The cells of one that other hasn't, rising as one does: perhaps none."""
    return tuple([cell for cell in one if cell not in other])
