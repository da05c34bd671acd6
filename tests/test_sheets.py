"""Point [110]: blocks, sheets and the borders that they show; points [2] (g) and [3] as far as they speak of these."""

import itertools
import random
import unittest

from lothouse.errors import LotError, NoWindow
from lothouse.land import Land
from lothouse.plans import Plan
from lothouse.sheets import above, beside, block, lined, sheet, sheet_text
from tests.things import anything

# Five columns and four rows.
PLAN = Plan(list("abcdef"), list("ghijk"))
FREE, MIXED = ("free",), ("mixed",)


def rectangle(west, east, south, north):
    """The cells of columns and rows from first to last."""
    return tuple([(i, j) for i in range(west, east + 1) for j in range(south, north + 1)])


def land_of(**lots):
    """A land on which lots of these names have such cells."""
    land = Land(PLAN, "king")
    for name, cells in lots.items():
        land.do(("grant", name, cells, "ann"))
    return land


# From the north: of column 0 to 4.
#   y y . . .
#   y y . m .
#   x x x m .
#   x x x . .
LAND = land_of(x=rectangle(0, 2, 0, 1), y=rectangle(0, 1, 2, 3), m=rectangle(3, 3, 1, 2))
X, Y, M = ("lot", "x"), ("lot", "y"), ("lot", "m")


def is_band(thing, many):
    """Whether thing is the number of one of so many columns or rows."""
    return isinstance(thing, int) and not isinstance(thing, bool) and 0 <= thing < many


class Blocks(unittest.TestCase):
    def test_by_scale_one(self):
        rows = [[Y, Y, FREE, FREE, FREE], [Y, Y, FREE, M, FREE], [X, X, X, M, FREE], [X, X, X, FREE, FREE]]
        for a in range(5):
            for b in range(4):
                self.assertEqual(block(LAND, 1, a, b), rows[3 - b][a])

    def test_by_scale_two(self):
        told = {(a, b): block(LAND, 2, a, b) for a in range(3) for b in range(2)}
        self.assertEqual(told, {(0, 0): X, (0, 1): Y, (1, 0): MIXED, (1, 1): MIXED, (2, 0): FREE, (2, 1): FREE})

    def test_by_scale_three(self):
        told = {(a, b): block(LAND, 3, a, b) for a in range(2) for b in range(2)}
        self.assertEqual(told, {(0, 0): MIXED, (0, 1): MIXED, (1, 0): MIXED, (1, 1): FREE})

    def test_two_lots_are_mixed(self):
        land = land_of(one=rectangle(0, 0, 0, 3), two=rectangle(1, 4, 0, 3))
        for scale in range(1, 8):
            self.assertEqual(block(land, scale, 0, 0), MIXED if scale > 1 else ("lot", "one"))
        self.assertEqual(block(land, 2, 2, 1), ("lot", "two"))
        self.assertEqual(block(land, 4, 1, 0), ("lot", "two"))

    def test_one_cell_alone_makes_it_mixed(self):
        for i, j in PLAN.cells():
            land = land_of(dot=((i, j),))
            for scale in range(1, 8):
                like = [cell for cell in PLAN.cells() if (cell[0] // scale, cell[1] // scale) == (i // scale, j // scale)]
                told = block(land, scale, i // scale, j // scale)
                self.assertEqual(told, ("lot", "dot") if len(like) == 1 else MIXED)

    def test_at_the_rims(self):
        land = land_of(east=rectangle(4, 4, 0, 3), north=rectangle(0, 3, 3, 3))
        self.assertEqual(block(land, 2, 2, 0), ("lot", "east"))
        self.assertEqual(block(land, 4, 1, 0), ("lot", "east"))
        self.assertEqual(block(land, 3, 0, 1), ("lot", "north"))
        self.assertEqual(block(land, 3, 1, 1), MIXED)

    def test_the_whole_plan(self):
        whole = land_of(all=PLAN.cells())
        for scale in (5, 6, 7):
            self.assertEqual(block(land_of(), scale, 0, 0), FREE)
            self.assertEqual(block(LAND, scale, 0, 0), MIXED)
            self.assertEqual(block(whole, scale, 0, 0), ("lot", "all"))

    def test_blocks_without_cells(self):
        for scale in range(1, 8):
            for a in range(-3, 8):
                for b in range(-3, 8):
                    there = 0 <= a * scale < 5 and 0 <= b * scale < 4
                    if not there:
                        self.assertRaises(NoWindow, block, LAND, scale, a, b)
                    else:
                        self.assertIn(block(LAND, scale, a, b)[0], ("lot", "free", "mixed"))

    def test_of_anything(self):
        for thing in [*anything(), 8, -7, "1", (1,), [1]]:
            with self.subTest(thing=thing):
                if not is_band(thing, 8) or thing == 0:
                    self.assertRaises(NoWindow, block, LAND, thing, 0, 0)
                    self.assertRaises(NoWindow, block, LAND, thing, thing, thing)
                    self.assertRaises(LotError, block, LAND, thing, None, None)
                if not is_band(thing, 5):
                    self.assertRaises(NoWindow, block, LAND, 1, thing, 0)
                if not is_band(thing, 4):
                    self.assertRaises(NoWindow, block, LAND, 1, 0, thing)

    def test_by_names_in_any_order(self):
        self.assertEqual(block(b=1, a=3, scale=1, land=LAND), M)


# Windows that are none, whatever the scale.
NO_WINDOWS = [
    ((0, 0),), ((0, 0), (0, 0), (0, 0)), ((0,), (0, 0)), ((0, 0), (0, 0, 0)), ((0, 0), (0,)), (0, 0), (0, 0, 0, 0), "0000",
    ((1, 0), (0, 0)), ((0, 0), (1, 0)), ((-1, 0), (0, 0)), ((0, 0), (-1, 0)), ((0, 0), (-2, -1)), ((True, 1), (0, 0)),
    ((0, True), (0, 0)), ((0, 0), (False, 0)), ((0, 0), (0, False)), ((0, None), (0, 0)), ((0, "0"), (0, 0)),
    ((0, 0), ("0", 0)), {0: 0, 1: 1}, {(0, 0): 1, (0, 1): 1}, ((0, 0), {0: 0, 1: 1}), ({0, 1}, {0, 1}), ((0, 0), None),
    (((0,), (0,)), (0, 0)), ((0, 10 ** 39), (0, 0)), ((-10 ** 39, 0), (0, 0)),
]


def windows(scale):
    """All windows by that scale."""
    columns, rows = -(-5 // scale), -(-4 // scale)
    spans = [[(first, last) for last in range(many) for first in range(last + 1)] for many in (columns, rows)]
    return list(itertools.product(*spans))


class Sheets(unittest.TestCase):
    def test_of_all(self):
        told = sheet(LAND, ((0, 4), (0, 3)))
        self.assertEqual(told[0], (Y, Y, FREE, FREE, FREE))
        self.assertEqual(told[3], (X, X, X, FREE, FREE))
        self.assertEqual(sheet_text(told), "y y - - -\ny y - m -\nx x x m -\nx x x - -\n")

    def test_by_scales(self):
        self.assertEqual(sheet(LAND, ((0, 2), (0, 1)), scale=2), ((Y, MIXED, FREE), (X, MIXED, FREE)))
        self.assertEqual(sheet(LAND, ((0, 1), (0, 1)), scale=3), ((MIXED, FREE), (MIXED, MIXED)))
        self.assertEqual(sheet(LAND, ((1, 1), (0, 0)), scale=4), ((FREE,),))
        self.assertEqual(sheet(LAND, ((0, 0), (0, 0)), scale=7), ((MIXED,),))

    def test_each_window_by_each_scale(self):
        for scale in range(1, 8):
            for (west, east), (south, north) in windows(scale):
                told = sheet(LAND, ((west, east), (south, north)), scale=scale)
                self.assertEqual([type(part) for part in (told, told[0], told[0][0])], [tuple] * 3)
                plain = [[block(LAND, scale, a, b) for a in range(west, east + 1)] for b in range(north, south - 1, -1)]
                self.assertEqual([list(row) for row in told], plain)

    def test_windows_of_lists(self):
        told = sheet(LAND, ((1, 3), (0, 1)))
        for window in ([[1, 3], [0, 1]], [(1, 3), (0, 1)], ([1, 3], (0, 1))):
            kept = repr(window)
            self.assertEqual(sheet(LAND, window), told)
            self.assertEqual(lined(LAND, window), lined(LAND, ((1, 3), (0, 1))))
            self.assertEqual(repr(window), kept)

    def test_no_window(self):
        for call in (sheet, lined):
            for thing in [*anything(), *NO_WINDOWS]:
                for scale in (1, 2, 7):
                    with self.subTest(thing=thing, scale=scale):
                        self.assertRaises(NoWindow, call, LAND, thing, scale=scale)
            for scale in range(1, 8):
                columns, rows = -(-5 // scale), -(-4 // scale)
                call(LAND, ((0, columns - 1), (0, rows - 1)), scale=scale)
                for window in [((0, columns), (0, 0)), ((columns, columns), (0, 0)), ((0, 0), (0, rows)), ((0, 0), (rows, rows)),
                               ((-1, 0), (0, 0)), ((0, 0), (-1, 0)), ((columns + 3, columns + 4), (rows, rows + 5))]:
                    self.assertRaises(NoWindow, call, LAND, window, scale=scale)
            for thing in [*anything(), 8, -1, "1", (1,)]:
                if not is_band(thing, 8) or thing == 0:
                    with self.subTest(thing=thing):
                        self.assertRaises(NoWindow, call, LAND, ((0, 0), (0, 0)), scale=thing)
                        self.assertRaises(NoWindow, call, LAND, thing, scale=thing)

    def test_by_names_in_any_order(self):
        self.assertEqual(sheet(scale=2, window=((0, 0), (0, 0)), land=LAND), ((X,),))
        self.assertEqual(lined(scale=2, window=((0, 0), (0, 0)), land=LAND), [])
        self.assertRaises(TypeError, sheet, LAND, ((0, 0), (0, 0)), 2)
        self.assertRaises(TypeError, lined, LAND, ((0, 0), (0, 0)), 2)


def plain_lines(land, window, scale):
    """The pairs of corners between two blocks of a window side by side, as point [110] tells them."""
    (west, east), (south, north) = window
    told = {(a, b): block(land, scale, a, b) for a in range(west, east + 1) for b in range(south, north + 1)}
    columns, rows = len(land.plan().uprights()) - 1, len(land.plan().levels()) - 1
    found = []
    for (a, b), (c, d) in itertools.permutations(told, 2):
        one, other = told[a, b], told[c, d]
        if one[0] != "lot" or other == ("mixed",) or one == other:
            continue
        if b == d and abs(a - c) == 1:
            at = max(a, c) * scale
            found += [((at, j), (at, j + 1)) for j in range(b * scale, min(b * scale + scale, rows))]
        if a == c and abs(b - d) == 1:
            at = max(b, d) * scale
            found += [((i, at), (i + 1, at)) for i in range(a * scale, min(a * scale + scale, columns))]
    return sorted(set(found))


def some_land(seed):
    """A land of a few lots, so large that some fill blocks."""
    chance = random.Random(seed)
    land = Land(PLAN, "king")
    for name in ("k", "l", "m", "n", "o"):
        west, south = chance.randrange(5), chance.randrange(4)
        cells = rectangle(west, min(4, west + chance.randrange(4)), south, min(3, south + chance.randrange(4)))
        if land.needed(("grant", name, cells, "ann")) is not None:
            land.do(("grant", name, cells, "ann"))
    return land


class Lined(unittest.TestCase):
    def test_by_scale_one(self):
        land = land_of(x=((1, 1),))
        self.assertEqual(lined(land, ((0, 4), (0, 3))),
                         [((1, 1), (1, 2)), ((1, 1), (2, 1)), ((1, 2), (2, 2)), ((2, 1), (2, 2))])
        self.assertEqual(lined(land, ((0, 1), (0, 1))), [((1, 1), (1, 2)), ((1, 1), (2, 1))])
        self.assertEqual(lined(land, ((1, 1), (1, 1))), [])
        self.assertEqual(lined(land, ((2, 4), (0, 3))), [])

    def test_between_lots(self):
        self.assertEqual(lined(LAND, ((0, 1), (1, 2))), [((0, 2), (1, 2)), ((1, 2), (2, 2))])
        self.assertEqual(lined(LAND, ((2, 3), (1, 1))), [((3, 1), (3, 2))])

    def test_by_scale_two(self):
        self.assertEqual(lined(LAND, ((0, 2), (0, 1)), scale=2), [((0, 2), (1, 2)), ((1, 2), (2, 2))])

    def test_none_beside_mixed_blocks(self):
        land = land_of(x=rectangle(0, 1, 0, 1), y=rectangle(2, 2, 0, 0))
        self.assertEqual(block(land, 2, 1, 0), MIXED)
        self.assertEqual(lined(land, ((0, 1), (0, 0)), scale=2), [])
        self.assertEqual(lined(land, ((0, 0), (0, 1)), scale=2), [((0, 2), (1, 2)), ((1, 2), (2, 2))])

    def test_none_between_what_is_free(self):
        self.assertEqual(lined(land_of(), ((0, 4), (0, 3))), [])
        self.assertEqual(lined(land_of(all=PLAN.cells()), ((0, 4), (0, 3))), [])

    def test_at_the_rim_of_the_last_blocks(self):
        land = land_of(east=rectangle(3, 4, 0, 3))
        self.assertEqual(lined(land, ((0, 1), (0, 1)), scale=3), [((3, j), (3, j + 1)) for j in range(4)])
        land = land_of(north=rectangle(0, 4, 3, 3))
        self.assertEqual(lined(land, ((0, 1), (0, 1)), scale=3), [((i, 3), (i + 1, 3)) for i in range(5)])

    def test_against_a_plain_look(self):
        met = 0
        for seed in range(25):
            land = some_land(seed)
            for scale in range(1, 6):
                for window in windows(scale):
                    told = lined(land, window, scale=scale)
                    self.assertEqual(told, plain_lines(land, window, scale))
                    met += len(told)
        self.assertGreater(met, 1000)

    def test_no_border_that_is_none(self):
        met = {}
        for seed in range(60):
            land = some_land(seed)
            for scale in range(1, 8):
                for window in windows(scale)[-3:]:
                    for start, end in lined(land, window, scale=scale):
                        i, j = start
                        cells = ((i - 1, j), (i, j)) if end == (i, j + 1) else ((i, j - 1), (i, j))
                        self.assertIn(end, ((i + 1, j), (i, j + 1)))
                        self.assertNotEqual(land.lot_at(cells[0]), land.lot_at(cells[1]))
                        self.assertTrue(set(cells) <= set(PLAN.cells()))
                        met[scale] = met.get(scale, 0) + 1
        self.assertTrue({1, 2, 3} <= set(met))

    def test_a_new_list_each_time(self):
        told = lined(LAND, ((0, 4), (0, 3)))
        self.assertIs(type(told), list)
        told.clear()
        self.assertNotEqual(lined(LAND, ((0, 4), (0, 3))), [])


class Together(unittest.TestCase):
    def test_side_by_side(self):
        for seed in range(6):
            land = some_land(seed)
            for scale in range(1, 5):
                for (west, east), rows in windows(scale):
                    whole = sheet(land, ((west, east), rows), scale=scale)
                    for cut in range(west, east):
                        parts = [sheet(land, (columns, rows), scale=scale) for columns in ((west, cut), (cut + 1, east))]
                        self.assertEqual(beside(*parts), whole)

    def test_one_above_the_other(self):
        for seed in range(6):
            land = some_land(seed)
            for scale in range(1, 4):
                for columns, (south, north) in windows(scale):
                    whole = sheet(land, (columns, (south, north)), scale=scale)
                    for cut in range(south, north):
                        parts = [sheet(land, (columns, rows), scale=scale) for rows in ((cut + 1, north), (south, cut))]
                        self.assertEqual(above(*parts), whole)

    def test_those_that_fit_in_one_way_alone(self):
        wide, high = ((X, Y, FREE),), ((X,), (MIXED,))
        self.assertEqual(beside(wide, ((FREE,),)), ((X, Y, FREE, FREE),))
        self.assertEqual(above(high, ((Y,), (FREE,), (M,))), ((X,), (MIXED,), (Y,), (FREE,), (M,)))
        self.assertRaises(NoWindow, beside, wide, high)
        self.assertRaises(NoWindow, beside, high, wide)
        self.assertRaises(NoWindow, above, wide, high)
        self.assertRaises(NoWindow, above, high, wide)
        self.assertRaises(LotError, beside, high, (*high, (X,)))
        self.assertRaises(NoWindow, above, wide, ((X, Y),))

    def test_sheets_of_lists(self):
        west = [[["lot", "x"], ["free"]], [["mixed"], ["free"]]]
        kept = repr(west)
        told = beside(west, [[FREE], [list(X)]])
        self.assertEqual(told, ((X, FREE, FREE), (MIXED, FREE, X)))
        self.assertEqual(above(west, [[["free"], M]]), ((X, FREE), (MIXED, FREE), (FREE, M)))
        self.assertEqual(sheet_text(west), "x -\n* -\n")
        self.assertEqual(repr(west), kept)

    def test_by_names_in_any_order(self):
        self.assertEqual(beside(east=((X,),), west=((Y,),)), ((Y, X),))
        self.assertEqual(above(south=((X,),), north=((Y,),)), ((Y,), (X,)))
        self.assertEqual(sheet_text(sheet=((X, FREE, MIXED), (M, MIXED, FREE))), "x - *\nm * -\n")

    def test_texts(self):
        self.assertEqual(sheet_text(((("lot", "farmland"),),)), "farmland\n")
        self.assertEqual(sheet_text(sheet(LAND, ((0, 2), (0, 1)), scale=2)), "y * -\nx * -\n")
        self.assertEqual(sheet_text(((FREE,), (MIXED,))), "-\n*\n")


if __name__ == "__main__":
    unittest.main()
