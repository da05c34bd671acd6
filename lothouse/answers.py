"""Whose a point is: for all grounds that the sights let be, with a paper that tells why."""

from lothouse.points import bounds, check_point, ground_at, is_bounds, lies, may_lie


def _cells(columns, rows):
    """The cells of these columns and rows, first and last told; those beyond the plan too, which are no lot's."""
    return [(i, j) for i in range(columns[0], columns[1] + 1) for j in range(rows[0], rows[1] + 1)]


def _shown(net, land, point, cell):
    """A ground in which a point lies in a cell, and the lot that has it."""
    return ground_at(net, point, cell[0], cell[1]), land.lot_at(cell)


def whose(net, land, point):
    """Whose a point is: of one in all grounds, with bounds; open, with two grounds; or none, with a ring."""
    check_point(net, point)
    ring = net.ring()
    if ring is not None:
        return "none", ring
    columns, rows = may_lie(net, point)
    cells = _cells(columns, rows)
    lot = land.lot_at(cells[0])
    unlike = [cell for cell in cells if land.lot_at(cell) != lot]
    if len(unlike) == 0:
        return "one", lot, bounds(net, point), ()
    return "open", *_shown(net, land, point, cells[0]), *_shown(net, land, point, unlike[0])


def way_over(net, land, point):
    """The names, rising, of the ways on which a point lies in all grounds."""
    columns, rows = may_lie(net, point)
    needed = _cells(columns, rows)
    return tuple([name for name, cells in land.ways().items() if all([cell in cells for cell in needed])])


def _is_one(net, land, point, lot, told):
    """Whether a point, by the bounds that are told, is that lot's in all grounds."""
    return is_bounds(net, point, told) and all([land.lot_at(cell) == lot for cell in _cells(told[0], told[1])])


def _is_shown(net, land, point, ground, lot):
    """Whether a ground is one in which a point is that lot's."""
    return net.is_ground(ground) and land.lot_at(lies(net.plan(), ground, point)) == lot


def is_whose(net, land, point, thing):
    """Whether thing, which may be anything, tells as whose does, by whatever paper, whose a point is."""
    check_point(net, point)
    if not isinstance(thing, tuple) or len(thing) == 0:
        return False
    word = thing[0]
    if net.ring() is not None:
        return word == "none" and len(thing) == 2 and net.is_ring(thing[1])
    if word == "one" and len(thing) == 4:
        return _is_one(net, land, point, thing[1], thing[2])
    if word != "open" or len(thing) != 5:
        return False
    ground, lot, other_ground, other_lot = thing[1:]
    shown = _is_shown(net, land, point, ground, lot) and _is_shown(net, land, point, other_ground, other_lot)
    return shown and lot != other_lot
