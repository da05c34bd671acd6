"""Sheets: the land as blocks of cells, by scales, and the borders that they show."""

from lothouse.errors import NoWindow
from lothouse.kinds import is_whole, is_within

_MOST_SCALE = 7
_FREE = ("free",)
_MIXED = ("mixed",)
_SIGNS = {"free": "-", "mixed": "*"}


def _check_scale(scale):
    """Refuses what is no scale."""
    if not is_within(scale, 1, _MOST_SCALE):
        raise NoWindow("a scale is from 1 to 7")


def _block_of(cell, scale):
    """The column and the row of the block that has a cell."""
    i, j = cell
    return i // scale, j // scale


def block(land, scale, a, b):
    """Whose all cells of a block are: one lot's, nobody's, or some one's and some not."""
    _check_scale(scale)
    known = is_whole(a) and is_whole(b)
    lots = [land.lot_at(cell) for cell in land.plan().cells() if known and _block_of(cell, scale) == (a, b)]
    if len(lots) == 0:
        raise NoWindow("the block has no cells")
    if any([lot != lots[0] for lot in lots]):
        return _MIXED
    return _FREE if lots[0] is None else ("lot", lots[0])


def _is_span(thing, last):
    """Whether thing, which may be anything, is a first and a last of the bands up to that last one."""
    if not isinstance(thing, (list, tuple)) or len(thing) != 2:
        return False
    return all([is_within(band, 0, last) for band in thing]) and thing[0] <= thing[1]


def _bands(land, window, scale):
    """The columns and the rows of blocks, rising, that a window has."""
    _check_scale(scale)
    last = _block_of(land.plan().cells()[-1], scale)
    if not isinstance(window, (list, tuple)) or len(window) != 2:
        raise NoWindow("a window is of columns and rows")
    if not all([_is_span(span, band) for span, band in zip(window, last)]):
        raise NoWindow("not all of the window is there")
    columns, rows = [list(range(first, end + 1)) for first, end in window]
    return columns, rows


def sheet(land, window, *, scale=1):
    """The blocks of a window: its rows from the north, each from the west."""
    columns, rows = _bands(land, window, scale)
    return tuple([tuple([block(land, scale, a, b) for a in columns]) for b in rows[::-1]])


def _are_parted(one, other):
    """Whether there is surely a border all along where two blocks meet: one is a lot's then, as all else is free."""
    return one != other and _MIXED not in (one, other)


def _sides_to(cell):
    """The cells to the east and to the north of a cell, each with the two corners between."""
    i, j = cell
    corner = (i + 1, j + 1)
    return ((i + 1, j), ((i + 1, j), corner)), ((i, j + 1), ((i, j + 1), corner))


def lined(land, window, *, scale=1):
    """The rising list of the pairs of corners along which there is a border between two blocks of a window."""
    columns, rows = _bands(land, window, scale)
    blocks = {(a, b): block(land, scale, a, b) for a in columns for b in rows}
    shown = {cell: blocks.get(_block_of(cell, scale)) for cell in land.plan().cells()}
    found = []
    for cell, one in shown.items():
        for beyond, side in _sides_to(cell):
            other = shown.get(beyond)
            if one is not None and other is not None and _are_parted(one, other):
                found.append(side)
    return sorted(found)


def _copied(row):
    """A row of a sheet in tuples, whatever it was handed in as."""
    return tuple([tuple(shown) for shown in row])


def beside(west, east):
    """Two sheets as one, the one to the west of the other."""
    if len(west) != len(east):
        raise NoWindow("the sheets haven't as many rows")
    return tuple([_copied([*row, *onward]) for row, onward in zip(west, east)])


def above(north, south):
    """Two sheets as one, the one to the north of the other."""
    if len(north[0]) != len(south[0]):
        raise NoWindow("the sheets' rows aren't as long")
    return tuple([_copied(row) for row in [*north, *south]])


def _sign(shown):
    """The word that a sheet's text has for a block."""
    return shown[1] if shown[0] == "lot" else _SIGNS[shown[0]]


def sheet_text(sheet):
    """A sheet's rows, with a line feed behind each, of names, `-` and `*`, with blanks between."""
    return "".join([" ".join([_sign(shown) for shown in row]) + "\n" for row in sheet])
