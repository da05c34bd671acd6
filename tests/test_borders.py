"""Point [40]: sides, rings and what they tell of regions; and point [3] as far as it speaks of these."""

import itertools
import unittest

from lothouse.borders import between, inside, ring_sides, rings, sides
from lothouse.cells import less, pieces

LONE = ((2, 3),)
HOLLOW = tuple([(i, j) for i in range(3) for j in range(3) if (i, j) != (1, 1)])
CROSSED = ((0, 0), (1, 1))
CROSSED_BACK = ((0, 1), (1, 0))
# Its two gaps meet at the corner (2, 2), which its one ring passes twice.
PINCHED = tuple([(i, j) for i in range(3) for j in range(3) if (i, j) not in ((1, 1), (2, 2))])
WHOLE = tuple([(i, j) for i in range(7) for j in range(7)])
BOARD = tuple([(i, j) for i in range(7) for j in range(7) if (i + j) % 2 == 0])


def regions():
    """All regions of four columns and three rows."""
    cells = [(i, j) for i in range(4) for j in range(3)]
    for number in range(1, 2 ** len(cells)):
        yield tuple([cell for k, cell in enumerate(cells) if number >> k & 1])


def plain_sides(cells):
    """Each pair of corners next to each other, by what lies on its left and on its right."""
    found = []
    for i, j in itertools.product(range(8), range(8)):
        for start, end, left, right in [
            ((i, j), (i + 1, j), (i, j), (i, j - 1)),
            ((i + 1, j), (i, j), (i, j - 1), (i, j)),
            ((i, j), (i, j + 1), (i - 1, j), (i, j)),
            ((i, j + 1), (i, j), (i, j), (i - 1, j)),
        ]:
            if left in cells and right not in cells:
                found.append((start, end))
    return sorted(found)


class Sides(unittest.TestCase):
    def test_of_one_cell(self):
        told = [((2, 3), (3, 3)), ((2, 4), (2, 3)), ((3, 3), (3, 4)), ((3, 4), (2, 4))]
        self.assertEqual(sides(LONE), told)

    def test_not_between_two_cells(self):
        told = sides(((0, 0), (1, 0)))
        self.assertEqual(len(told), 6)
        self.assertNotIn(((1, 0), (1, 1)), told)
        self.assertNotIn(((1, 1), (1, 0)), told)
        self.assertEqual(len(sides(WHOLE)), 28)

    def test_of_a_hole(self):
        told = sides(HOLLOW)
        self.assertEqual(len(told), 16)
        for side in [((1, 1), (1, 2)), ((1, 2), (2, 2)), ((2, 2), (2, 1)), ((2, 1), (1, 1))]:
            self.assertIn(side, told)

    def test_of_all_small_regions(self):
        for cells in [*itertools.islice(regions(), 0, None, 3), WHOLE, BOARD, PINCHED]:
            self.assertEqual(sides(cells), plain_sides(cells))

    def test_a_new_list_of_tuples(self):
        told = sides(LONE)
        self.assertIs(type(told), list)
        self.assertTrue(all(type(side) is tuple and type(side[0]) is tuple for side in told))
        told.clear()
        self.assertEqual(len(sides(LONE)), 4)

    def test_by_name(self):
        self.assertEqual(sides(cells=LONE), sides(LONE))


class Rings(unittest.TestCase):
    def test_of_one_cell(self):
        self.assertEqual(rings(LONE), [((2, 3), (3, 3), (3, 4), (2, 4))])

    def test_corners_only_where_it_turns(self):
        self.assertEqual(rings(((0, 0), (0, 1), (1, 0))), [((0, 0), (2, 0), (2, 1), (1, 1), (1, 2), (0, 2))])
        self.assertEqual(rings(WHOLE), [((0, 0), (7, 0), (7, 7), (0, 7))])

    def test_from_the_least_corner_at_which_it_turns(self):
        self.assertEqual(rings(((0, 1), (1, 0), (1, 1))), [((0, 1), (1, 1), (1, 0), (2, 0), (2, 2), (0, 2))])

    def test_round_a_hole(self):
        told = [((0, 0), (3, 0), (3, 3), (0, 3)), ((1, 1), (1, 2), (2, 2), (2, 1))]
        self.assertEqual(rings(HOLLOW), told)

    def test_of_pieces(self):
        told = [((0, 0), (1, 0), (1, 1), (0, 1)), ((2, 0), (3, 0), (3, 1), (2, 1))]
        self.assertEqual(rings(((0, 0), (2, 0))), told)

    def test_to_the_left_where_cells_meet_at_a_corner(self):
        self.assertEqual(rings(CROSSED), [((0, 0), (1, 0), (1, 1), (0, 1)), ((1, 1), (2, 1), (2, 2), (1, 2))])
        self.assertEqual(rings(CROSSED_BACK), [((0, 1), (1, 1), (1, 2), (0, 2)), ((1, 0), (2, 0), (2, 1), (1, 1))])
        self.assertEqual(len(rings(BOARD)), len(BOARD))

    def test_twice_through_a_corner(self):
        told = ((0, 0), (3, 0), (3, 2), (2, 2), (2, 1), (1, 1), (1, 2), (2, 2), (2, 3), (0, 3))
        self.assertEqual(rings(PINCHED), [told])

    def test_holes_that_meet_at_a_corner(self):
        cells = less(WHOLE, ((2, 2), (3, 3)))
        told = [((0, 0), (7, 0), (7, 7), (0, 7)), ((2, 2), (2, 3), (3, 3), (3, 4), (4, 4), (4, 3), (3, 3), (3, 2))]
        self.assertEqual(rings(cells), told)

    def test_each_side_once_in_all_small_regions(self):
        for cells in [*itertools.islice(regions(), 0, None, 3), WHOLE, BOARD, PINCHED]:
            told = rings(cells)
            self.assertEqual(told, sorted(told))
            self.assertEqual(sorted([side for ring in told for side in ring_sides(ring)]), sides(cells))
            for ring in told:
                self.assertIs(type(ring), tuple)
                self.assertEqual(ring[0], min(ring))
                self.turns_and_goes_left(ring, cells)

    def turns_and_goes_left(self, ring, cells):
        """At each corner a ring turns; where two sides go on from one, it is to the left."""
        for ahead, corner, behind in zip([ring[-1], *ring], ring, [*ring[1:], ring[0]]):
            i, j = corner[0] - ahead[0], corner[1] - ahead[1]
            k, m = behind[0] - corner[0], behind[1] - corner[1]
            self.assertNotEqual(i * m - j * k, 0)
            if [start for start, _ in sides(cells)].count(corner) == 2:
                self.assertGreater(i * m - j * k, 0)

    def test_a_new_list_each_time(self):
        told = rings(HOLLOW)
        self.assertIs(type(told), list)
        told.clear()
        self.assertEqual(len(rings(HOLLOW)), 2)

    def test_by_name(self):
        self.assertEqual(rings(cells=LONE), rings(LONE))


class RingSides(unittest.TestCase):
    def test_in_the_rings_order(self):
        ring = ((0, 0), (2, 0), (2, 1), (1, 1), (1, 2), (0, 2))
        told = [((0, 0), (1, 0)), ((1, 0), (2, 0)), ((2, 0), (2, 1)), ((2, 1), (1, 1)), ((1, 1), (1, 2)),
                ((1, 2), (0, 2)), ((0, 2), (0, 1)), ((0, 1), (0, 0))]
        self.assertEqual(ring_sides(ring), told)
        self.assertIs(type(ring_sides(ring)), list)

    def test_each_side_goes_on_from_the_one_ahead(self):
        for cells in [HOLLOW, PINCHED, BOARD, WHOLE, *itertools.islice(regions(), 0, None, 31)]:
            for ring in rings(cells):
                told = ring_sides(ring)
                self.assertEqual(told[0][0], ring[0])
                for side, other in zip(told, [*told[1:], told[0]]):
                    self.assertEqual(side[1], other[0])
                self.assertEqual(len(set(told)), len(told))

    def test_by_name(self):
        self.assertEqual(ring_sides(ring=rings(LONE)[0]), ring_sides(rings(LONE)[0]))


class Inside(unittest.TestCase):
    def test_the_region_again(self):
        for cells in [*regions(), LONE, WHOLE, BOARD, less(WHOLE, BOARD)]:
            told = rings(cells)
            self.assertEqual(inside(told), cells)
            self.assertEqual(inside(told[::-1]), cells)
            self.assertEqual(inside(tuple(told[1:] + told[:1])), cells)

    def test_the_rings_in_any_order(self):
        cells = (*less(HOLLOW, ()), (4, 0), (4, 2), (5, 1))
        for order in itertools.permutations(rings(cells)):
            self.assertEqual(inside(list(order)), cells)
            self.assertEqual(inside(order), cells)

    def test_within_one_another(self):
        outer = tuple([(i, j) for i in range(7) for j in range(7) if i in (0, 6) or j in (0, 6)])
        inner = tuple([(i, j) for i in range(2, 5) for j in range(2, 5) if (i, j) != (3, 3)])
        cells = tuple(sorted([*outer, *inner, (3, 3)]))
        self.assertEqual(len(rings(cells)), 3)
        self.assertEqual(inside(rings(cells)[::-1]), cells)
        cells = tuple(sorted([*outer, *inner]))
        self.assertEqual(len(rings(cells)), 4)
        self.assertEqual(inside(rings(cells)[::-1]), cells)

    def test_what_is_handed_in_is_left(self):
        told = rings(HOLLOW)[::-1]
        kept = list(told)
        inside(told)
        self.assertEqual(told, kept)

    def test_by_name(self):
        self.assertEqual(inside(rings=rings(HOLLOW)), HOLLOW)


class Between(unittest.TestCase):
    def test_two_cells(self):
        self.assertEqual(between(((0, 0),), ((1, 0),)), [((1, 0), (1, 1))])
        self.assertEqual(between(((1, 0),), ((0, 0),)), [((1, 1), (1, 0))])
        self.assertEqual(between(((0, 0),), ((0, 1),)), [((1, 1), (0, 1))])
        self.assertEqual(between(((0, 1),), ((0, 0),)), [((0, 1), (1, 1))])

    def test_none(self):
        self.assertEqual(between(((0, 0),), ((1, 1),)), [])
        self.assertEqual(between(((0, 0),), ((2, 0), (0, 2))), [])

    def test_a_hole(self):
        self.assertEqual(between(((1, 1),), HOLLOW), sides(((1, 1),)))
        self.assertEqual(between(HOLLOW, ((1, 1),)), sorted([(end, start) for start, end in sides(((1, 1),))]))

    def test_the_one_and_the_other_way(self):
        for cells in itertools.islice(regions(), 0, None, 13):
            rest = less(tuple([(i, j) for i in range(4) for j in range(3)]), cells)
            for other in [rest, *pieces(rest), rest[::2]]:
                told = between(cells, other)
                self.assertIs(type(told), list)
                self.assertEqual(told, sorted(told))
                self.assertEqual(sorted([(end, start) for start, end in told]), between(other, cells))
                meeting = [side for side in sides(cells) if (side[1], side[0]) in sides(other)]
                self.assertEqual(told, meeting)

    def test_by_names_in_any_order(self):
        self.assertEqual(between(other=((1, 0),), one=((0, 0),)), [((1, 0), (1, 1))])


if __name__ == "__main__":
    unittest.main()
