"""The land: lots with their holdings and burdens, ways over them, and what deeds do to these."""

from lothouse.cells import both, is_cell, is_piece, less
from lothouse.deeds import is_deed
from lothouse.errors import NoDeed, NoLot, NoShare
from lothouse.plans import is_name
from lothouse.shares import passed, sole


def _holders(lots):
    """The names of all who hold some of these lots, rising."""
    return tuple(sorted({name for _, holding, _ in lots for name, _ in holding}))


def _put(table, changed):
    """Puts what has changed into a table; what is no more, told as None, goes."""
    for name, thing in changed.items():
        if thing is None:
            del table[name]
        else:
            table[name] = thing


class Land:
    """The lots and ways of a plan: a lot is (cells, holding, burdens), a way its cells.

    What a deed would do is worked out by one method for each kind of deed. It is None where the deed can't be done,
    else: the names without whose seals it isn't, the lots that change, and the ways that do, as _put takes them.
    """

    def __init__(self, plan, giver):
        self._plan = plan
        self._giver = giver
        self._lots = {}
        self._ways = {}
        # The names that ever stood: none of them is given to another lot or way.
        self._lot_names = {}
        self._way_names = {}

    def __eq__(self, other):
        if not isinstance(other, Land) or self._plan != other._plan or self._giver != other._giver:
            return False
        if self._lots != other._lots or self._ways != other._ways:
            return False
        return self._lot_names == other._lot_names and self._way_names == other._way_names

    def plan(self):
        """The plan."""
        return self._plan

    def giver(self):
        """The name of the one who grants."""
        return self._giver

    def lots(self):
        """The lots by their names, which rise."""
        return {name: self._lots[name] for name in sorted(self._lots)}

    def lot(self, name):
        """The lot of that name."""
        if not is_name(name) or name not in self._lots:
            raise NoLot(name)
        return self._lots[name]

    def lot_at(self, cell):
        """The name of the lot that has a cell, None of anything else."""
        if not is_cell(cell):
            return None
        names = [name for name, lot in self._lots.items() if cell in lot[0]]
        return names[0] if len(names) > 0 else None

    def ways(self):
        """The cells of the ways by the ways' names, which rise."""
        return {name: self._ways[name] for name in sorted(self._ways)}

    def twin(self):
        """A land that is like this one now, and goes its own way."""
        other = Land(self._plan, self._giver)
        other._lots = dict(self._lots)
        other._ways = dict(self._ways)
        other._lot_names = dict(self._lot_names)
        other._way_names = dict(self._way_names)
        return other

    def needed(self, deed):
        """The names without whose seals a deed isn't done, rising; None where it can't be done."""
        change = self._change(deed)
        return None if change is None else change[0]

    def do(self, deed):
        """Does a deed, whoever sealed it."""
        change = self._change(deed)
        if change is None:
            raise NoDeed("this deed can't be done now")
        _, lots, ways = change
        _put(self._lots, lots)
        _put(self._ways, ways)
        for name in lots:
            self._lot_names[name] = True
        for name in ways:
            self._way_names[name] = True

    def _change(self, deed):
        """What a deed would do."""
        if not is_deed(deed):
            raise NoDeed("only a deed can be done")
        changes = {
            "grant": self._granted, "give": self._given, "split": self._parted, "join": self._joined,
            "burden": self._burdened, "free": self._freed, "way": self._way_made, "close": self._way_closed,
        }
        change = changes[deed[0]]
        parts = deed[1:]
        return change(*parts)

    def _granted(self, lot, cells, holder):
        if lot in self._lot_names or not is_piece(self._plan, cells):
            return None
        if any([self.lot_at(cell) is not None for cell in cells]):
            return None
        return (self._giver,), {lot: (cells, sole(holder), ())}, {}

    def _given(self, lot, giver, taker, part):
        if lot not in self._lots:
            return None
        cells, holding, burdens = self._lots[lot]
        try:
            left = passed(holding, giver, taker, part)
        except NoShare:
            return None
        return (giver,), {lot: (cells, left, burdens)}, {}

    def _parted(self, lot, new, cells):
        if lot not in self._lots or new in self._lot_names:
            return None
        whole, holding, burdens = self._lots[lot]
        rest = less(whole, cells)
        if len(less(cells, whole)) > 0 or not is_piece(self._plan, cells) or not is_piece(self._plan, rest):
            return None
        return _holders([self._lots[lot]]), {lot: (rest, holding, burdens), new: (cells, holding, burdens)}, {}

    def _joined(self, lot, other):
        if lot == other or lot not in self._lots or other not in self._lots:
            return None
        cells, holding, burdens = self._lots[lot]
        more, other_holding, other_burdens = self._lots[other]
        whole = both(cells, more)
        if holding != other_holding or burdens != other_burdens or not is_piece(self._plan, whole):
            return None
        return _holders([self._lots[lot]]), {lot: (whole, holding, burdens), other: None}, {}

    def _burdened(self, lot, title, holder):
        if lot not in self._lots:
            return None
        cells, holding, burdens = self._lots[lot]
        if title in [elder for elder, _ in burdens]:
            return None
        return _holders([self._lots[lot]]), {lot: (cells, holding, (*burdens, (title, holder)))}, {}

    def _freed(self, lot, title):
        if lot not in self._lots:
            return None
        cells, holding, burdens = self._lots[lot]
        rest = tuple([burden for burden in burdens if burden[0] != title])
        gone = less(burdens, rest)
        if len(gone) == 0:
            return None
        return (gone[0][1],), {lot: (cells, holding, rest)}, {}

    def _way_made(self, way, cells):
        if way in self._way_names or not is_piece(self._plan, cells):
            return None
        if any([self.lot_at(cell) is None for cell in cells]):
            return None
        return self._holders_of(cells), {}, {way: cells}

    def _way_closed(self, way):
        if way not in self._ways:
            return None
        return self._holders_of(self._ways[way]), {}, {way: None}

    def _holders_of(self, cells):
        """The names of all who hold some of the lots that have these cells, rising."""
        return _holders([self._lots[self.lot_at(cell)] for cell in cells])
