"""Points [30] and [31]: points, and where they lie; and point [3] as far as it speaks of these."""

import functools
import unittest

from lothouse.errors import NoGround, NoPoint
from lothouse.nets import Net
from lothouse.plans import Plan
from lothouse.points import bounds, ground_at, is_bounds, is_point, lies, may_lie
from tests.grounds import SMALL, grounds, some_sights
from tests.things import anything, nested

PLAN = Plan(["a", "b", "c"], ["d", "e"])
GROUND = {"a": 0, "b": 4, "c": 9, "d": 0, "e": 6}
NET = Net(PLAN, {1: ("a", "b", 3, 5), 2: ("b", "c", 4, 4), 3: ("d", "e", 2, None)})
BAD = Net(PLAN, {1: ("a", "b", 5, 3)})
POINT = (("a", 4), ("d", 1))
MOST = 10 ** 9

NO_POINTS = {
    "a level for an upright": (("d", 1), ("d", 1)),
    "an upright for a level": (("a", 1), ("a", 1)),
    "the other way about": (("d", 1), ("a", 1)),
    "no such upright": (("x", 1), ("d", 1)),
    "no such level": (("a", 1), ("x", 1)),
    "above the numbers": (("a", MOST + 1), ("d", 1)),
    "below the numbers": (("a", 1), ("d", -MOST - 1)),
    "truths": (("a", True), ("d", False)),
    "a truth": (("a", 1), ("d", True)),
    "None": (("a", None), ("d", 1)),
    "texts": (("a", "1"), ("d", "1")),
    "a list": [("a", 1), ("d", 1)],
    "a list within": (["a", 1], ("d", 1)),
    "a list within, behind": (("a", 1), ["d", 1]),
    "one part": (("a", 1),),
    "three parts": (("a", 1), ("d", 1), ("d", 1)),
    "none": (),
    "three parts within": (("a", 1, 1), ("d", 1)),
    "one part within": (("a", 1), ("d",)),
    "flat": ("a", 1, "d", 1),
    "a dict": {("a", 1): ("d", 1)},
    "numbers first": ((1, "a"), (1, "d")),
}


class IsPoint(unittest.TestCase):
    def test_points(self):
        for point in [POINT, (("c", 0), ("e", 0)), (("b", -7), ("e", -1)), (("a", MOST), ("d", -MOST)),
                      (("a", -MOST), ("d", MOST))]:
            with self.subTest(point=point):
                self.assertIs(is_point(PLAN, point), True)

    def test_no_points(self):
        for why, thing in NO_POINTS.items():
            with self.subTest(why):
                self.assertIs(is_point(PLAN, thing), False)

    def test_anything(self):
        for thing in [*anything(), PLAN]:
            number = isinstance(thing, int) and not isinstance(thing, bool) and abs(thing) <= MOST
            with self.subTest(thing=thing):
                self.assertIs(is_point(PLAN, thing), False)
                self.assertIs(is_point(PLAN, (thing, ("d", 1))), False)
                self.assertIs(is_point(PLAN, (("a", 1), thing)), False)
                self.assertIs(is_point(PLAN, ((thing, 1), ("d", 1))), False)
                self.assertIs(is_point(PLAN, (("a", thing), ("d", 1))), number)
                self.assertIs(is_point(PLAN, (("a", 1), ("d", thing))), number)

    def test_of_no_plan_nothing_is_a_point(self):
        for thing in anything():
            self.assertIs(is_point(thing, POINT), False)

    def test_by_names_in_any_order(self):
        self.assertIs(is_point(thing=POINT, plan=PLAN), True)


class Lies(unittest.TestCase):
    def test_columns(self):
        for east, column in [(-MOST, -1), (-5, -1), (-1, -1), (0, 0), (1, 0), (3, 0), (4, 1), (5, 1), (8, 1), (9, 2),
                             (10, 2), (MOST, 2)]:
            with self.subTest(east=east):
                self.assertEqual(lies(PLAN, GROUND, (("a", east), ("d", 1))), (column, 0))

    def test_from_each_upright(self):
        for line in "abc":
            for east in range(-12, 12):
                at = GROUND[line] + east
                column = -1 if at < 0 else 0 if at < 4 else 1 if at < 9 else 2
                self.assertEqual(lies(PLAN, GROUND, ((line, east), ("d", 1))), (column, 0))

    def test_rows(self):
        for level in "de":
            for north in range(-9, 9):
                at = GROUND[level] + north
                row = -1 if at < 0 else 0 if at < 6 else 1
                self.assertEqual(lies(PLAN, GROUND, (("b", 0), (level, north))), (1, row))

    def test_lines_in_any_order(self):
        turned = dict(reversed(list(GROUND.items())))
        self.assertEqual(lies(PLAN, turned, (("b", 5), ("e", -1))), (2, 0))
        self.assertEqual(list(turned), ["e", "d", "c", "b", "a"])

    def test_no_point(self):
        for thing in [*anything(), *NO_POINTS.values()]:
            with self.subTest(thing=thing):
                self.assertRaises(NoPoint, lies, PLAN, GROUND, thing)

    def test_by_names_in_any_order(self):
        self.assertEqual(lies(point=POINT, ground=GROUND, plan=PLAN), (1, 0))


@functools.cache
def seeded():
    """Nets over SMALL of which there are grounds, with those that lie near."""
    made = [Net(SMALL, some_sights(seed, seed % 6)) for seed in range(100)]
    return [(net, grounds(SMALL, net.sights().values())) for net in made if net.ring() is None]


def some_points():
    """Points of SMALL on, at and far beside each of its lines."""
    places = [(line, off) for line in "abc" for off in (-6, -2, -1, 0, 1, 2, 3, 6)]
    beside = [("d", 0), ("d", 3), ("e", -2), ("e", 0), ("d", -1), ("e", 1), ("d", 1)]
    return [(place, beside[k % len(beside)]) for k, place in enumerate(places)]


class MayLie(unittest.TestCase):
    def test_one_net(self):
        for east, columns in [(-1, (-1, -1)), (0, (0, 0)), (2, (0, 0)), (3, (0, 1)), (4, (0, 1)), (5, (1, 1)), (6, (1, 1)),
                              (7, (1, 2)), (8, (1, 2)), (9, (2, 2))]:
            with self.subTest(east=east):
                self.assertEqual(may_lie(NET, (("a", east), ("d", 1))), (columns, (0, 0)))
        for north, rows in [(-1, (-1, -1)), (0, (0, 0)), (1, (0, 0)), (2, (0, 1)), (MOST, (0, 1))]:
            with self.subTest(north=north):
                self.assertEqual(may_lie(NET, (("c", 0), ("d", north))), ((2, 2), rows))

    def test_where_nothing_bounds(self):
        net = Net(PLAN, {})
        self.assertEqual(may_lie(net, (("b", -1), ("e", MOST))), ((0, 0), (1, 1)))
        self.assertEqual(may_lie(net, (("b", -2), ("e", -MOST))), ((-1, 0), (-1, 0)))
        self.assertEqual(may_lie(net, (("b", 1), ("d", MOST))), ((1, 2), (0, 1)))
        self.assertEqual(may_lie(net, (("c", -1), ("d", -MOST))), ((1, 1), (-1, -1)))
        self.assertEqual(may_lie(net, (("c", -3), ("e", -1))), ((-1, 1), (0, 0)))
        self.assertEqual(may_lie(net, (("a", 2), ("e", 0))), ((0, 2), (1, 1)))

    def test_against_all_near_grounds(self):
        wide = 0
        for net, near in seeded():
            for point in some_points():
                columns, rows = may_lie(net, point)
                told = {(i, j) for i in range(columns[0], columns[1] + 1) for j in range(rows[0], rows[1] + 1)}
                self.assertEqual({lies(SMALL, ground, point) for ground in near}, told)
                wide += len(told) > 1
        self.assertGreater(wide, 500)

    def test_no_point_then_no_ground(self):
        for call in (may_lie, bounds):
            for net in (NET, BAD):
                for thing in [*anything(), *NO_POINTS.values()]:
                    with self.subTest(thing=thing):
                        self.assertRaises(NoPoint, call, net, thing)
            with self.assertRaises(NoGround) as caught:
                call(BAD, POINT)
            self.assertEqual(caught.exception.steps, BAD.ring())

    def test_by_names_in_any_order(self):
        self.assertEqual(may_lie(point=POINT, net=NET), ((0, 1), (0, 0)))


class GroundAt(unittest.TestCase):
    def test_against_all_near_grounds(self):
        for net, near in seeded()[::2]:
            for point in some_points()[::5]:
                spots = {lies(SMALL, ground, point) for ground in near}
                for column in range(-3, 5):
                    for row in range(-3, 4):
                        told = ground_at(net, point, column, row)
                        if (column, row) in spots:
                            self.assertIs(net.is_ground(told), True)
                            self.assertEqual(list(told), list("abcde"))
                            self.assertEqual(lies(SMALL, told, point), (column, row))
                        else:
                            self.assertIsNone(told)

    def test_at_the_furthest_numbers(self):
        net = Net(PLAN, {})
        for point, column, row in [((("a", MOST), ("d", MOST)), 0, 0), ((("a", MOST), ("d", MOST)), 2, 1),
                                   ((("c", -MOST), ("e", -MOST)), -1, -1), ((("c", -MOST), ("e", -MOST)), 1, 0)]:
            with self.subTest(column=column, row=row):
                told = ground_at(net, point, column, row)
                self.assertIs(net.is_ground(told), True)
                self.assertEqual(lies(PLAN, told, point), (column, row))

    def test_columns_and_rows_that_are_none(self):
        for thing in [*anything(), -2, 3, 7, 10 ** 39, POINT, PLAN]:
            column = isinstance(thing, int) and not isinstance(thing, bool) and thing in (0, 1)
            row = isinstance(thing, int) and not isinstance(thing, bool) and thing == 0
            with self.subTest(thing=thing):
                self.assertEqual(ground_at(NET, POINT, thing, 0) is not None, column)
                self.assertEqual(ground_at(NET, POINT, 0, thing) is not None, row)
                self.assertIsNone(ground_at(BAD, POINT, thing, thing))

    def test_none_where_there_is_no_ground(self):
        self.assertIsNone(ground_at(BAD, POINT, 0, 0))

    def test_no_point(self):
        for net in (NET, BAD):
            for thing in [*anything(), *NO_POINTS.values()]:
                with self.subTest(thing=thing):
                    self.assertRaises(NoPoint, ground_at, net, thing, 0, 0)
                    self.assertRaises(NoPoint, ground_at, net, thing, thing, thing)

    def test_a_new_dict_each_time(self):
        told = ground_at(NET, POINT, 0, 0)
        kept = dict(told)
        told.clear()
        self.assertEqual(ground_at(NET, POINT, 0, 0), kept)

    def test_by_names_in_any_order(self):
        told = ground_at(row=0, column=1, point=POINT, net=NET)
        self.assertEqual(lies(PLAN, told, POINT), (1, 0))


class Bounds(unittest.TestCase):
    def test_one_net(self):
        told = bounds(NET, POINT)
        self.assertEqual(told, ((0, 1), (0, 0), ((), ((2, "least"), (1, "least")), (), ((3, "least"),))))

    def test_beyond_the_lines(self):
        self.assertEqual(bounds(NET, (("a", -1), ("d", -1))), ((-1, -1), (-1, -1), (None, (), None, ())))
        self.assertEqual(bounds(NET, (("c", 0), ("e", 0))), ((2, 2), (1, 1), ((), None, (), None)))
        told = ((-1, 0), (0, 1), (None, (), (), None))
        self.assertEqual(bounds(Net(PLAN, {}), (("b", -2), ("d", 1))), told)

    def test_the_ways_are_as_told(self):
        for net, _ in seeded():
            for point in some_points():
                columns, rows, ways = bounds(net, point)
                self.assertEqual((columns, rows), may_lie(net, point))
                self.assertEqual(len(ways), 4)
                self.is_told(net, SMALL.uprights(), point[0], columns, ways[:2])
                self.is_told(net, SMALL.levels(), point[1], rows, ways[2:])
                self.assertIs(is_bounds(net, point, (columns, rows, ways)), True)

    def is_told(self, net, lines, place, span, ways):
        line, off = place
        if span[0] == -1:
            self.assertIsNone(ways[0])
        else:
            self.assertIs(net.is_way(line, lines[span[0]], ways[0]), True)
            self.assertLessEqual(net.worth(ways[0]), off)
        if span[1] == len(lines) - 1:
            self.assertIsNone(ways[1])
        else:
            self.assertIs(net.is_way(lines[span[1] + 1], line, ways[1]), True)
            self.assertLessEqual(net.worth(ways[1]), -1 - off)

    def test_by_names_in_any_order(self):
        self.assertEqual(bounds(point=POINT, net=NET), bounds(NET, POINT))


# Of a point at POINT in NET: each fine tuple of bounds, told by its columns and its two ways of uprights.
NORTH = ((0, 0), ((), ((3, "least"),)))
WEST = {-1: [None], 0: [(), ((1, "most"), (1, "least")), ((1, "most"), (0, "b"))], 1: [], 2: []}
EAST = {-1: [], 0: [], 1: [((2, "least"), (1, "least")), ((2, "least"), (0, "b"))], 2: [None]}


def told_with(first, last, ahead, behind):
    rows, ways = NORTH
    return (first, last), rows, (ahead, behind, *ways)


class IsBounds(unittest.TestCase):
    def test_narrow_and_wide(self):
        every = [way for ways in [*WEST.values(), *EAST.values()] for way in ways]
        fine = 0
        for first in WEST:
            for last in EAST:
                for ahead in every:
                    for behind in every:
                        worth = first <= last and ahead in WEST[first] and behind in EAST[last]
                        if ahead == ((1, "most"), (0, "b")):
                            worth = worth and NET.worth(ahead) <= 4
                        told = told_with(first, last, ahead, behind)
                        with self.subTest(told=told):
                            self.assertIs(is_bounds(NET, POINT, told), worth)
                        fine += worth
        self.assertGreaterEqual(fine, 10)

    def test_ways_that_are_worth_just_as_much_as_they_may(self):
        for east, fine in [(6, False), (7, True), (8, True)]:
            point = (("a", east), ("d", 1))
            net = Net(PLAN, {1: ("a", "b", None, 7)})
            told = ((1, 2), (0, 1), (((1, "most"),), None, (), None))
            self.assertIs(is_bounds(net, point, told), fine)
        for east, fine in [(6, True), (7, False), (8, False)]:
            point = (("a", east), ("d", 1))
            net = Net(PLAN, {1: ("a", "b", 7, None)})
            told = ((0, 0), (0, 1), ((), ((1, "least"),), (), None))
            self.assertIs(is_bounds(net, point, told), fine)

    def test_levels_likewise(self):
        for north, fine in [(6, False), (7, True)]:
            point = (("a", 0), ("d", north))
            net = Net(PLAN, {1: ("d", "e", None, 7)})
            told = ((0, 0), (1, 1), ((), ((0, "b"),), ((1, "most"),), None))
            self.assertIs(is_bounds(net, point, told), fine)
        for north, fine in [(6, True), (7, False)]:
            point = (("a", 0), ("d", north))
            net = Net(PLAN, {1: ("d", "e", 7, None)})
            told = ((0, 0), (0, 0), ((), ((0, "b"),), (), ((1, "least"),)))
            self.assertIs(is_bounds(net, point, told), fine)

    def test_without_a_ground_by_form_alone(self):
        told = ((0, 2), (0, 1), ((), None, (), None))
        self.assertIs(is_bounds(BAD, POINT, told), True)
        self.assertIs(is_bounds(BAD, POINT, ((1, 2), (0, 1), (((1, "most"),), None, (), None))), True)
        self.assertIs(is_bounds(BAD, POINT, ((1, 2), (0, 1), (None, None, (), None))), False)

    def test_first_above_last_though_the_ways_are_such(self):
        ways = (((1, "most"),), ((1, "least"),), (), None)
        self.assertIs(is_bounds(BAD, POINT, ((1, 2), (0, 1), (ways[0], None, (), None))), True)
        self.assertIs(is_bounds(BAD, POINT, ((0, 0), (0, 1), ((), ways[1], (), None))), True)
        self.assertIs(is_bounds(BAD, POINT, ((1, 0), (0, 1), ways)), False)

    def test_spoilt(self):
        columns, rows, ways = bounds(NET, POINT)
        told = (columns, rows, ways)
        self.assertIs(is_bounds(NET, POINT, told), True)
        for why, thing in {
            "a list": list(told),
            "columns a list": (list(columns), rows, ways),
            "rows a list": (columns, list(rows), ways),
            "ways a list": (columns, rows, list(ways)),
            "a way a list": (columns, rows, ([], *ways[1:])),
            "another way a list": (columns, rows, (ways[0], list(ways[1]), *ways[2:])),
            "two parts": told[:2],
            "four parts": (*told, ()),
            "columns of three": ((0, 1, 1), rows, ways),
            "columns of one": ((0,), rows, ways),
            "rows of three": (columns, (0, 0, 0), ways),
            "three ways": (columns, rows, ways[:3]),
            "five ways": (columns, rows, (*ways, None)),
            "no ways": (columns, rows, (None, None, None, None)),
            "another order of ways": (columns, rows, (ways[2], ways[3], ways[0], ways[1])),
            "ways the other way about": (columns, rows, (ways[1], ways[0], ways[2], ways[3])),
            "rows and columns the other way about": (rows, columns, ways),
            "first above last": ((1, 0), rows, ways),
            "a truth": ((False, 1), rows, ways),
            "another truth": ((0, True), rows, ways),
            "a truth for a row": (columns, (False, 0), ways),
            "a first below -1": ((-2, 1), rows, (None, *ways[1:])),
            "a last beyond the lines": ((0, 3), rows, (ways[0], None, *ways[2:])),
            "a last row beyond the lines": (columns, (0, 2), (*ways[:3], None)),
            "a first of None": ((None, 1), rows, (None, *ways[1:])),
            "None where a way is due": (columns, rows, (None, *ways[1:])),
            "None where a way behind is due": (columns, rows, (ways[0], None, *ways[2:])),
            "None where a way of levels is due": (columns, rows, (*ways[:3], None)),
            "None where a first way of levels is due": (columns, rows, (*ways[:2], None, ways[3])),
            "a way where none is due": ((-1, 1), rows, ways),
            "a way behind where none is due": ((0, 2), rows, ways),
            "a way of levels where none is due": (columns, (-1, 0), ways),
            "a way behind of levels where none is due": (columns, (0, 1), ways),
            "narrower than may be": ((0, 0), rows, (ways[0], ((1, "least"),), *ways[2:])),
            "narrower from the west": ((1, 1), rows, (((1, "most"),), *ways[1:])),
        }.items():
            with self.subTest(why):
                self.assertIs(is_bounds(NET, POINT, thing), False)

    def test_anything_at_any_place(self):
        columns, rows, ways = bounds(NET, POINT)
        for thing in [*anything(), PLAN]:
            with self.subTest(thing=thing):
                self.assertIs(is_bounds(NET, POINT, thing), False)
                self.assertIs(is_bounds(NET, POINT, (thing, rows, ways)), False)
                self.assertIs(is_bounds(NET, POINT, (columns, (thing, 0), (*ways[:2], thing, ways[3]))), False)
                self.assertIs(is_bounds(NET, POINT, (columns, rows, thing)), False)
                self.assertIs(is_bounds(NET, POINT, (columns, rows, (ways[0], thing, *ways[2:]))), False)
                if thing != ():
                    self.assertIs(is_bounds(NET, POINT, (columns, rows, (thing, *ways[1:]))), False)
                    self.assertIs(is_bounds(NET, POINT, (columns, rows, (*ways[:2], thing, ways[3]))), False)

    def test_no_point(self):
        for net in (NET, BAD):
            for thing in [*anything(), *NO_POINTS.values()]:
                with self.subTest(thing=thing):
                    self.assertRaises(NoPoint, is_bounds, net, thing, bounds(NET, POINT))
                    self.assertRaises(NoPoint, is_bounds, net, thing, thing)

    def test_by_names_in_any_order(self):
        self.assertIs(is_bounds(thing=bounds(NET, POINT), point=POINT, net=NET), True)

    def test_what_is_handed_in_is_left(self):
        for thing in ([(0, 1), (0, 0), []], ([0, 1], [0, 0], [[]]), nested(list, 20)):
            before = repr(thing)
            is_bounds(NET, POINT, thing)
            is_point(PLAN, thing)
            self.assertEqual(repr(thing), before)
        self.assertEqual(NET.sights(), {1: ("a", "b", 3, 5), 2: ("b", "c", 4, 4), 3: ("d", "e", 2, None)})


if __name__ == "__main__":
    unittest.main()
