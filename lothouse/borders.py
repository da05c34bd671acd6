"""Borders: the sides of a region, and the rings in which they go round it, its inside on their left."""

# The four sides of a cell (0, 0), its inside on their left: from corner, to corner, and the cell on their right.
_SIDES = (
    ((0, 0), (1, 0), (0, -1)),
    ((1, 0), (1, 1), (1, 0)),
    ((1, 1), (0, 1), (0, 1)),
    ((0, 1), (0, 0), (-1, 0)),
)


def _moved(place, by):
    """The corner or cell that lies so many columns and rows from another."""
    return place[0] + by[0], place[1] + by[1]


def _sides_and_rights(cells):
    """All four sides of each of the cells, rising, each with the cell on its right."""
    found = [((_moved(cell, start), _moved(cell, end)), _moved(cell, right))
             for cell in cells for start, end, right in _SIDES]
    return sorted(found)


def sides(cells):
    """The rising list of the sides of a region."""
    return [side for side, right in _sides_and_rights(cells) if right not in cells]


def between(one, other):
    """The rising list of those sides of one region that have a cell of the other on their right."""
    return [side for side, right in _sides_and_rights(one) if right in other]


def _course(start, end):
    """By how many columns and rows one comes from a corner to another."""
    return end[0] - start[0], end[1] - start[1]


def _next_side(side, rest):
    """The side of the rest along which a ring goes on: the one to the left, else the only one that is there."""
    start, end = side
    east, north = _course(start, end)
    left = (end, _moved(end, (-north, east)))
    if left in rest:
        return left
    onward = [other for other in rest if other[0] == end]
    return onward[0]


def _sides_round(start, rest):
    """The sides of the ring that goes along start, from it on."""
    ring = [start]
    side = _next_side(start, rest)
    while side != start:
        ring.append(side)
        side = _next_side(side, rest)
    return ring


def _turns(ring):
    """The corners at which a ring, told by its sides, turns: in the order of these."""
    corners = []
    ahead = ring[-1]
    for side in ring:
        if _course(ahead[0], ahead[1]) != _course(side[0], side[1]):
            corners.append(side[0])
        ahead = side
    return tuple(corners)


def rings(cells):
    """The rising list of the rings that have all sides of a region, each by the corners at which it turns."""
    found = []
    rest = sides(cells)
    while len(rest) > 0:
        # The least side that is left goes on from the least corner that is left, and there its ring turns: so each
        # ring is told from its least corner on, and the rings rise as they are found.
        ring = _sides_round(rest[0], rest)
        found.append(_turns(ring))
        rest = [side for side in rest if side not in ring]
    return found


def _sides_along(start, end):
    """The sides from one corner straight to another."""
    east, north = _course(start, end)
    many = max(abs(east), abs(north))
    by = (east // many, north // many)
    corners = [start]
    for _ in range(many):
        corners.append(_moved(corners[-1], by))
    return list(zip(corners, corners[1:]))


def ring_sides(ring):
    """The sides of a ring, in its order, from its first corner on."""
    ends = [*ring[1:], ring[0]]
    return [side for start, end in zip(ring, ends) for side in _sides_along(start, end)]


def inside(rings):
    """The region round which all these rings go."""
    found = [side for ring in rings for side in ring_sides(ring)]
    # In each row the region begins at a side that goes south, and ends at the next one that goes north.
    west = sorted([(end[1], end[0]) for start, end in found if _course(start, end) == (0, -1)])
    east = sorted([(start[1], start[0]) for start, end in found if _course(start, end) == (0, 1)])
    return tuple(sorted([(i, j) for (j, first), (_, last) in zip(west, east) for i in range(first, last)]))
