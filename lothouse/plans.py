"""Names, and the plan: the lines that part the land into cells."""

from lothouse.errors import NoLine, NoPlan
from lothouse.kinds import is_letters


def is_name(thing):
    """Whether thing, which may be anything, is a text of 1 to 8 small letters."""
    return is_letters(thing, 8)


def _is_family(thing):
    """Whether thing is a list of 2 to 8 names, perhaps like ones."""
    return isinstance(thing, (list, tuple)) and 2 <= len(thing) <= 8 and all([is_name(line) for line in thing])


def are_families(uprights, levels):
    """Whether both are lists of names, and no name stands twice in one or in both."""
    if not _is_family(uprights) or not _is_family(levels):
        return False
    lines = [*uprights, *levels]
    return len(set(lines)) == len(lines)


class Plan:
    """The uprights from west to east and the levels from south to north."""

    def __init__(self, uprights, levels):
        if not are_families(uprights, levels):
            raise NoPlan("a plan has 2 to 8 names each way, all unlike")
        self._uprights = tuple(uprights)
        self._levels = tuple(levels)

    def __eq__(self, other):
        return isinstance(other, Plan) and self._uprights == other._uprights and self._levels == other._levels

    def __len__(self):
        return len(self.cells())

    def uprights(self):
        """The uprights, from west to east."""
        return self._uprights

    def levels(self):
        """The levels, from south to north."""
        return self._levels

    def lines(self, family):
        """The lines of a family: the uprights of 0, the levels of 1."""
        return self._uprights if family == 0 else self._levels

    def family(self, line):
        """The family that has the line: 0 or 1."""
        if line in self._uprights:
            return 0
        if line in self._levels:
            return 1
        raise NoLine(line)

    def cells(self):
        """All cells (column, row), rising."""
        return tuple([(i, j) for i in range(len(self._uprights) - 1) for j in range(len(self._levels) - 1)])
