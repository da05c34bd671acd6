"""Point [11], and point [3] as far as it speaks of cells and regions."""

import unittest

from lothouse.cells import both, is_piece, is_region, less, pieces
from lothouse.plans import Plan
from tests.things import anything, nested

# Two columns and three rows.
PLAN = Plan(["a", "b", "c"], ["d", "e", "f", "g"])
WIDE = Plan(["a", "b", "c", "d", "e", "f", "g", "h"], ["i", "j", "k", "l", "m", "n", "o", "p"])

NO_REGIONS = {
    "none at all": (),
    "west": ((-1, 0), (0, 0)),
    "south": ((0, -1), (0, 0)),
    "east": ((1, 0), (2, 0)),
    "north": ((0, 2), (0, 3)),
    "far": ((10 ** 39, 0),),
    "one twice": ((0, 0), (0, 0)),
    "one twice at the end": ((0, 0), (0, 1), (0, 1)),
    "another order": ((0, 1), (0, 0)),
    "another order of columns": ((1, 0), (0, 1)),
    "another order at the end": ((0, 0), (1, 1), (1, 0)),
    "a list": [(0, 0)],
    "a list within": ([0, 0],),
    "a list behind a cell": ((0, 0), [0, 1]),
    "a dict": {(0, 0): (0, 1)},
    "a dict within": ({0: 0, 1: 1},),
    "truths": ((False, False),),
    "a truth for a column": ((True, 0),),
    "a truth for a row": ((0, True),),
    "a truth behind": ((0, 0), (0, True)),
    "a triple": ((0, 0, 0),),
    "a single": ((0,),),
    "an empty cell": ((),),
    "numbers": (0, 0),
    "texts": (("0", "0"),),
    "a text": "00",
    "a text within": ("00",),
    "a text of cells": ("ab", "cd"),
    "None within": ((0, None),),
    "None behind": ((0, 0), None),
    "a cell alone": (0, 1),
    "a region within": (((0, 0),),),
}


class Regions(unittest.TestCase):
    def test_regions(self):
        for cells in (((0, 0),), ((1, 2),), ((0, 0), (1, 1)), ((0, 2), (1, 0)), PLAN.cells()):
            with self.subTest(cells=cells):
                self.assertIs(is_region(PLAN, cells), True)

    def test_all_cells_alone_and_no_others(self):
        for i in range(-2, 9):
            for j in range(-2, 9):
                for plan in (PLAN, WIDE):
                    stands = (i, j) in plan.cells()
                    self.assertIs(is_region(plan, ((i, j),)), stands)
                    self.assertIs(is_piece(plan, ((i, j),)), stands)

    def test_no_regions(self):
        for why, thing in NO_REGIONS.items():
            with self.subTest(why):
                self.neither(thing)

    def test_anything_is_no_region(self):
        for thing in [*anything(), PLAN]:
            with self.subTest(thing=thing):
                self.neither(thing)

    def test_anything_in_a_cells_place(self):
        for thing in [*anything(), PLAN]:
            if thing not in [(0, 0), (1, 2)]:
                with self.subTest(thing=thing):
                    self.neither((thing,))
                    self.neither(((0, 0), thing))
                    self.neither((thing, (1, 2)))

    def test_anything_in_a_numbers_place(self):
        for thing in [*anything(), PLAN]:
            if isinstance(thing, bool) or not isinstance(thing, int):
                with self.subTest(thing=thing):
                    self.neither(((0, thing),))
                    self.neither(((thing, 0),))
                    self.neither(((0, 0), (thing, 1)))

    def neither(self, thing):
        self.assertIs(is_region(PLAN, thing), False)
        self.assertIs(is_piece(PLAN, thing), False)

    def test_a_region_of_another_plan(self):
        self.assertIs(is_region(WIDE, ((6, 6),)), True)
        self.assertIs(is_region(PLAN, ((6, 6),)), False)
        self.assertIs(is_region(Plan(["d", "e", "f", "g"], ["a", "b", "c"]), ((0, 2),)), False)

    def test_of_no_plan_nothing_is_a_region(self):
        for thing in anything():
            self.assertIs(is_region(thing, ((0, 0),)), False)
            self.assertIs(is_piece(thing, ((0, 0),)), False)

    def test_pieces_hang_together_from_side_to_side(self):
        for cells in (((0, 0),), ((0, 0), (0, 1)), ((0, 0), (1, 0)), ((0, 0), (0, 1), (1, 1)), PLAN.cells()):
            with self.subTest(cells=cells):
                self.assertIs(is_piece(PLAN, cells), True)

    def test_not_from_corner_to_corner(self):
        for cells in (((0, 0), (1, 1)), ((0, 1), (1, 0)), ((0, 0), (0, 2)), ((0, 0), (0, 1), (1, 2))):
            with self.subTest(cells=cells):
                self.assertIs(is_region(PLAN, cells), True)
                self.assertIs(is_piece(PLAN, cells), False)

    def test_round_about_and_winding_pieces(self):
        ring = tuple([(i, j) for i in range(3) for j in range(3) if (i, j) != (1, 1)])
        comb = tuple([(i, j) for i in range(7) for j in range(7) if i in (0, 2, 4, 6) or j == 6])
        self.assertIs(is_piece(WIDE, ring), True)
        self.assertIs(is_piece(WIDE, comb), True)
        self.assertIs(is_piece(WIDE, tuple([cell for cell in comb if cell != (3, 6)])), False)

    def test_by_names_in_any_order(self):
        self.assertIs(is_region(thing=((0, 0),), plan=PLAN), True)
        self.assertIs(is_piece(thing=((0, 0),), plan=PLAN), True)
        self.assertIs(is_piece(thing=((0, 0), (1, 1)), plan=PLAN), False)

    def test_what_is_handed_in_is_left(self):
        for thing in ([(0, 0)], [[0, 0]], {(0, 0): True}, ([0, 0],), nested(list, 20)):
            before = repr(thing)
            is_region(PLAN, thing)
            is_piece(PLAN, thing)
            self.assertEqual(repr(thing), before)


class Pieces(unittest.TestCase):
    def test_one(self):
        self.assertEqual(pieces(((0, 0),)), [((0, 0),)])
        self.assertEqual(pieces(PLAN.cells()), [PLAN.cells()])

    def test_two(self):
        self.assertEqual(pieces(((0, 0), (1, 1))), [((0, 0),), ((1, 1),)])
        self.assertEqual(pieces(((0, 0), (0, 2), (1, 0))), [((0, 0), (1, 0)), ((0, 2),)])

    def test_many(self):
        board = tuple([(i, j) for i in range(7) for j in range(7) if (i + j) % 2 == 0])
        self.assertEqual(pieces(board), [(cell,) for cell in board])

    def test_pieces_whose_cells_stand_mixed(self):
        cells = ((0, 0), (0, 2), (0, 4), (1, 0), (1, 2), (1, 3), (1, 4), (3, 0))
        told = [((0, 0), (1, 0)), ((0, 2), (0, 4), (1, 2), (1, 3), (1, 4)), ((3, 0),)]
        self.assertEqual(pieces(cells), told)

    def test_one_within_another(self):
        middle = (3, 3)
        ring = tuple([(i, j) for i in range(2, 5) for j in range(2, 5) if (i, j) != middle])
        outer = tuple([(i, j) for i in range(7) for j in range(7) if i in (0, 6) or j in (0, 6)])
        region = tuple(sorted([*ring, middle]))
        self.assertEqual(pieces(region), [region])
        self.assertEqual(pieces(tuple(sorted([*outer, middle]))), [outer, (middle,)])
        self.assertEqual(pieces(tuple(sorted([*outer, *ring]))), [outer, ring])

    def test_a_piece_that_comes_back_below_its_first_cell(self):
        cells = ((0, 3), (1, 0), (1, 3), (2, 0), (2, 1), (2, 2), (2, 3))
        self.assertEqual(pieces(cells), [cells])

    def test_they_are_the_region_again_and_pieces(self):
        for number in range(1, 2 ** 9):
            cells = tuple([(k // 3, k % 3) for k in range(9) if number // 2 ** k % 2 == 1])
            told = pieces(cells)
            self.assertEqual(told, sorted(told))
            self.assertEqual(sorted([cell for piece in told for cell in piece]), list(cells))
            for piece in told:
                self.assertIs(type(piece), tuple)
                self.assertIs(is_piece(WIDE, piece), True)
            for k in range(1, len(told)):
                for piece in told[:k]:
                    self.assertIs(is_piece(WIDE, tuple(sorted([*piece, *told[k]]))), False)

    def test_a_new_list_each_time(self):
        cells = ((0, 0), (1, 1))
        told = pieces(cells)
        self.assertIs(type(told), list)
        told.append("mine")
        self.assertEqual(pieces(cells), [((0, 0),), ((1, 1),)])
        self.assertEqual(cells, ((0, 0), (1, 1)))

    def test_by_name(self):
        self.assertEqual(pieces(cells=((1, 2),)), [((1, 2),)])


class BothAndLess(unittest.TestCase):
    ONE = ((0, 0), (0, 2), (1, 1))
    OTHER = ((0, 1), (0, 2), (2, 0))

    def test_both(self):
        self.assertEqual(both(self.ONE, self.OTHER), ((0, 0), (0, 1), (0, 2), (1, 1), (2, 0)))
        self.assertEqual(both(self.OTHER, self.ONE), ((0, 0), (0, 1), (0, 2), (1, 1), (2, 0)))

    def test_both_of_like_ones_and_of_parts(self):
        self.assertEqual(both(self.ONE, self.ONE), self.ONE)
        self.assertEqual(both(self.ONE, self.ONE[1:]), self.ONE)
        self.assertEqual(both(self.ONE[:1], self.ONE), self.ONE)

    def test_both_with_none(self):
        self.assertEqual(both(self.ONE, ()), self.ONE)
        self.assertEqual(both((), self.ONE), self.ONE)
        self.assertEqual(both((), ()), ())

    def test_less(self):
        self.assertEqual(less(self.ONE, self.OTHER), ((0, 0), (1, 1)))
        self.assertEqual(less(self.OTHER, self.ONE), ((0, 1), (2, 0)))

    def test_less_without_common_cells(self):
        self.assertEqual(less(((0, 0), (1, 0)), ((0, 1), (1, 1))), ((0, 0), (1, 0)))

    def test_nothing_is_left(self):
        self.assertEqual(less(self.ONE, self.ONE), ())
        self.assertEqual(less(((0, 0),), PLAN.cells()), ())
        self.assertEqual(less((), self.ONE), ())
        self.assertEqual(less(self.ONE, ()), self.ONE)

    def test_by_names_in_any_order(self):
        self.assertEqual(both(other=self.OTHER, one=self.ONE), both(self.ONE, self.OTHER))
        self.assertEqual(less(other=self.OTHER, one=self.ONE), ((0, 0), (1, 1)))

    def test_tuples_are_told(self):
        for told in (both(self.ONE, self.OTHER), less(self.ONE, self.OTHER), less(self.ONE, self.ONE)):
            self.assertIs(type(told), tuple)


if __name__ == "__main__":
    unittest.main()
