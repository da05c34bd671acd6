"""Point [120]: whose a point is, and on which ways it lies; points [2] (a) and [3] as far as they speak of these."""

import functools
import itertools
import unittest

from lothouse.answers import is_whose, way_over, whose
from lothouse.errors import LotError, NoGround, NoPoint
from lothouse.land import Land
from lothouse.nets import Net
from lothouse.plans import Plan
from lothouse.points import bounds, ground_at, is_bounds, lies, may_lie
from tests.grounds import SMALL, grounds, some_sights
from tests.test_points import NO_POINTS
from tests.things import anything, nested, spoilt

WIDE = Plan(["a", "b", "c"], ["d", "e", "f"])
NET = Net(SMALL, {1: ("a", "b", 3, 5), 2: ("b", "c", 4, 4), 3: ("d", "e", 2, None)})
BAD = Net(SMALL, {1: ("a", "b", 5, 3)})
MOST = 10 ** 9


def land_of(plan, *deeds):
    """A land of a plan on which these deeds were done."""
    land = Land(plan, "king")
    for deed in deeds:
        land.do(deed)
    return land


def granted(name, *cells):
    return "grant", name, cells, "ann"


# Of SMALL: nobody's, one cell a lot's, both one's, both lots'.
LANDS = [
    land_of(SMALL),
    land_of(SMALL, granted("x", (0, 0)), ("way", "lane", ((0, 0),))),
    land_of(SMALL, granted("x", (1, 0)), ("way", "path", ((1, 0),)), ("way", "lane", ((1, 0),))),
    land_of(SMALL, granted("x", (0, 0), (1, 0)), ("way", "lane", ((0, 0), (1, 0))), ("way", "path", ((1, 0),))),
    land_of(SMALL, granted("x", (0, 0)), granted("y", (1, 0)), ("way", "road", ((0, 0), (1, 0))), ("way", "path", ((0, 0),))),
]
NOBODYS, WESTERN, EASTERN, WHOLE, BOTH = LANDS
# In NET columns 0 and 1 of row 0; a column alone; rows 0 and 1; beyond.
WAVERS, WESTWARD = (("a", 4), ("d", 1)), (("a", 2), ("d", 0))
NORTHWARD, BEYOND = (("a", 0), ("d", 2)), (("a", -1), ("d", -1))
POINTS = [WAVERS, WESTWARD, NORTHWARD, BEYOND]


@functools.cache
def seeded():
    """Nets over SMALL of which there are grounds, with those that lie near."""
    made = [Net(SMALL, some_sights(seed, seed % 6)) for seed in range(100)]
    return [(net, grounds(SMALL, net.sights().values())) for net in made if net.ring() is None]


def some_points():
    """Points of SMALL on and beside its lines, and beyond."""
    places = [(line, off) for line in "abc" for off in (-6, -1, 0, 1, 3, 6)]
    beside = [("d", 0), ("d", 3), ("e", -2), ("e", 0), ("d", -1), ("e", 1), ("d", 1)]
    return [(place, beside[k % len(beside)]) for k, place in enumerate(places)]


class Whose(unittest.TestCase):
    def test_one(self):
        self.assertEqual(whose(NET, WESTERN, WESTWARD), ("one", "x", bounds(NET, WESTWARD), ()))
        self.assertEqual(whose(NET, WHOLE, WAVERS), ("one", "x", bounds(NET, WAVERS), ()))
        self.assertEqual(whose(NET, EASTERN, WESTWARD), ("one", None, bounds(NET, WESTWARD), ()))
        self.assertEqual(whose(NET, NOBODYS, WAVERS), ("one", None, bounds(NET, WAVERS), ()))

    def test_open(self):
        for land, lots in [(BOTH, {"x", "y"}), (WESTERN, {"x", None}), (EASTERN, {None, "x"})]:
            word, ground, lot, other_ground, other_lot = whose(NET, land, WAVERS)
            self.assertEqual(word, "open")
            self.assertEqual({lot, other_lot}, lots)
            for shown, name in [(ground, lot), (other_ground, other_lot)]:
                self.assertIs(NET.is_ground(shown), True)
                self.assertEqual(land.lot_at(lies(SMALL, shown, WAVERS)), name)

    def test_open_towards_the_rim(self):
        told = whose(NET, WHOLE, NORTHWARD)
        self.assertEqual((told[0], {told[2], told[4]}), ("open", {"x", None}))
        self.assertEqual(whose(NET, NOBODYS, NORTHWARD)[:2], ("one", None))

    def test_none(self):
        for land in LANDS:
            for point in POINTS:
                self.assertEqual(whose(BAD, land, point), ("none", BAD.ring()))
        self.assertIs(BAD.is_ring(whose(BAD, WHOLE, WAVERS)[1]), True)

    def test_beyond_the_plan_on_each_side(self):
        for point in [(("a", -1), ("d", 0)), (("a", -MOST), ("d", 1)), (("c", 0), ("d", 0)), (("c", MOST), ("d", 1)),
                      (("b", 0), ("d", -1)), (("b", 1), ("d", -MOST)), (("a", 0), ("e", 0)), (("a", 1), ("e", MOST)),
                      (("a", -1), ("d", -1)), (("c", 5), ("e", 5)), (("a", -9), ("e", 0)), (("c", 0), ("d", -2))]:
            with self.subTest(point=point):
                self.assertEqual(whose(NET, WHOLE, point), ("one", None, bounds(NET, point), ()))
                self.assertEqual(way_over(NET, WHOLE, point), ())

    def test_beyond_the_greatest_plan(self):
        plan = Plan(list("abcdefgh"), list("ijklmnop"))
        land = land_of(plan, ("grant", "all", plan.cells(), "ann"))
        net = Net(plan, {})
        for point, lot in [((("h", 0), ("p", 0)), None), ((("h", -1), ("p", -1)), "all"), ((("a", 0), ("i", 0)), "all"),
                           ((("a", -1), ("i", 0)), None), ((("h", 0), ("i", 0)), None)]:
            self.assertEqual(whose(net, land, point)[:2], ("one", lot))
        self.assertEqual(whose(net, land, (("a", 7), ("i", 7)))[0], "open")

    def test_against_all_near_grounds(self):
        met = {}
        for net, near in seeded():
            for point in some_points():
                spots = {lies(SMALL, ground, point) for ground in near}
                for land in LANDS:
                    told = whose(net, land, point)
                    lots = {land.lot_at(spot) for spot in spots}
                    if len(lots) == 1:
                        self.assertEqual(told, ("one", lots.pop(), bounds(net, point), ()))
                    else:
                        self.assertEqual((told[0], len(told)), ("open", 5))
                        self.shows(net, land, point, told[1:3])
                        self.shows(net, land, point, told[3:])
                        self.assertNotEqual(told[2], told[4])
                    self.assertIs(is_whose(net, land, point, told), True)
                    met[told[0]] = met.get(told[0], 0) + 1
        self.assertGreater(min(met["one"], met["open"]), 400)

    def shows(self, net, land, point, pair):
        ground, lot = pair
        self.assertIs(net.is_ground(ground), True)
        self.assertEqual(land.lot_at(lies(net.plan(), ground, point)), lot)

    def test_over_rows_and_columns(self):
        lands = [land_of(WIDE, granted("x", *cells)) for many in (1, 2, 3, 4)
                 for cells in itertools.combinations(WIDE.cells(), many) if cells not in (((0, 0), (1, 1)), ((0, 1), (1, 0)))]
        net = Net(WIDE, {7: ("a", "b", 2, 4), 9: ("d", "e", 3, 3), 12: ("f", "e", -6, -3)})
        met = set()
        for point in itertools.product([("a", off) for off in (-1, 1, 3)] + [("c", -1)], [("d", off) for off in (2, 3, 6, 8)]):
            spots = [spot for spot in itertools.product(range(-1, 3), repeat=2) if ground_at(net, point, *spot) is not None]
            for land in lands:
                told = whose(net, land, point)
                lots = {land.lot_at(spot) for spot in spots}
                self.assertEqual(told[0], "one" if len(lots) == 1 else "open")
                self.assertIs(is_whose(net, land, point, told), True)
                if told[0] == "one":
                    self.assertEqual(told[1], lots.pop())
                met.add((told[0], len(spots)))
        self.assertTrue({("one", 1), ("one", 2), ("open", 2), ("open", 6), ("one", 6)} <= met)

    def test_grounds_are_new_each_time(self):
        told = whose(NET, BOTH, WAVERS)
        kept = repr(told)
        told[1].clear()
        told[3]["a"] = 7
        self.assertEqual(repr(whose(NET, BOTH, WAVERS)), kept)

    def test_the_same_whatever_the_order_of_sights(self):
        sights = NET.sights()
        turned = Net(SMALL, {number: sights[number] for number in reversed(sights)})
        for land in LANDS:
            for point in POINTS:
                self.assertEqual(repr(whose(turned, land, point)), repr(whose(NET, land, point)))

    def test_no_point(self):
        for net in (NET, BAD):
            for thing in [*anything(), *NO_POINTS.values()]:
                with self.subTest(thing=thing):
                    self.assertRaises(NoPoint, whose, net, WHOLE, thing)
                    self.assertRaises(LotError, whose, net, NOBODYS, thing)

    def test_by_names_in_any_order(self):
        self.assertEqual(whose(point=WESTWARD, land=WESTERN, net=NET), whose(NET, WESTERN, WESTWARD))


class WayOver(unittest.TestCase):
    def test_ways(self):
        self.assertEqual([way_over(NET, land, WAVERS) for land in LANDS], [(), (), (), ("lane",), ("road",)])
        self.assertEqual([way_over(NET, land, WESTWARD) for land in LANDS], [(), ("lane",), (), ("lane",), ("path", "road")])
        eastward = (("b", 0), ("d", 0))
        self.assertEqual(way_over(NET, EASTERN, eastward), ("lane", "path"))
        self.assertEqual(way_over(NET, WHOLE, eastward), ("lane", "path"))
        self.assertEqual([way_over(NET, land, NORTHWARD) for land in LANDS], [()] * 5)

    def test_against_all_near_grounds(self):
        met = 0
        for net, near in seeded():
            for point in some_points():
                spots = {lies(SMALL, ground, point) for ground in near}
                for land in LANDS:
                    plain = [name for name, cells in land.ways().items() if spots <= set(cells)]
                    self.assertEqual(way_over(net, land, point), tuple(sorted(plain)))
                    met += len(plain)
        self.assertGreater(met, 100)

    def test_no_point_then_no_ground(self):
        for thing in [*anything(), *NO_POINTS.values()]:
            with self.subTest(thing=thing):
                self.assertRaises(NoPoint, way_over, NET, WHOLE, thing)
                self.assertRaises(NoPoint, way_over, BAD, WHOLE, thing)
        with self.assertRaises(NoGround) as caught:
            way_over(BAD, WHOLE, WAVERS)
        self.assertEqual(caught.exception.steps, BAD.ring())

    def test_by_names_in_any_order(self):
        self.assertEqual(way_over(point=WAVERS, land=WHOLE, net=NET), ("lane",))


def plain_is_whose(net, land, point, thing):
    """Whether thing is an answer, by its parts; of bounds and grounds by what other points promise."""
    if not isinstance(thing, tuple) or len(thing) not in (2, 4, 5):
        return False
    if net.ring() is not None:
        return len(thing) == 2 and thing[0] == "none" and net.is_ring(thing[1])
    if len(thing) == 4 and thing[0] == "one" and is_bounds(net, point, thing[2]):
        (west, east), (south, north), _ = thing[2]
        cells = itertools.product(range(west, east + 1), range(south, north + 1))
        return all(land.lot_at(cell) == thing[1] for cell in cells)
    if len(thing) != 5 or thing[0] != "open" or not all(net.is_ground(ground) for ground in thing[1::2]):
        return False
    return thing[2] != thing[4] and list(thing[2::2]) == [land.lot_at(lies(net.plan(), at, point)) for at in thing[1::2]]


class IsWhose(unittest.TestCase):
    def test_what_whose_tells(self):
        for net in (NET, BAD):
            for land in LANDS:
                for point in POINTS:
                    self.assertIs(is_whose(net, land, point, whose(net, land, point)), True)

    def test_anything(self):
        for net in (NET, BAD):
            for thing in [*anything(), WHOLE, *spoilt(())]:
                with self.subTest(thing=thing):
                    self.assertIs(is_whose(net, WHOLE, WAVERS, thing), False)
                    for word in ("one", "open", "none", None):
                        self.assertIs(is_whose(net, WHOLE, WAVERS, (word, thing)), False)
                        self.assertIs(is_whose(net, WHOLE, WAVERS, (word, thing, thing, thing)), False)
                        self.assertIs(is_whose(net, WHOLE, WAVERS, (word, thing, thing, thing, thing)), False)

    def test_each_spoilt_at_any_place(self):
        for land, point, word in [(BOTH, WAVERS, "open"), (WESTERN, WAVERS, "open"), (WHOLE, WAVERS, "one"),
                                  (WHOLE, WESTWARD, "one"), (NOBODYS, NORTHWARD, "one"), (BOTH, BEYOND, "one")]:
            answer = whose(NET, land, point)
            self.assertEqual(answer[0], word)
            for thing in spoilt(answer):
                # A word of another title leaves the answer as it is, and a list or a dict is no tuple.
                like = word == "one" and isinstance(thing, tuple) and len(thing) == 4 and repr(thing[:3]) == repr(answer[:3])
                fine = like or plain_is_whose(NET, land, point, thing)
                with self.subTest(thing=thing):
                    self.assertIs(is_whose(NET, land, point, thing), fine)

    def test_a_ring_spoilt_at_any_place(self):
        answer = whose(BAD, WHOLE, WAVERS)
        for thing in spoilt(answer):
            with self.subTest(thing=thing):
                self.assertIs(is_whose(BAD, WHOLE, WAVERS, thing), plain_is_whose(BAD, WHOLE, WAVERS, thing))
                if not isinstance(thing, tuple) or len(thing) != 2 or not BAD.is_ring(thing[1]):
                    self.assertIs(is_whose(BAD, WHOLE, WAVERS, thing), False)

    def test_other_titles(self):
        answer = whose(NET, WHOLE, WAVERS)
        for thing in [*anything(), (("king", 1),), WHOLE]:
            self.assertIs(is_whose(NET, WHOLE, WAVERS, (*answer[:3], thing)), True)

    def test_other_lots(self):
        word, _, paper, names = whose(NET, WHOLE, WAVERS)
        for lot in [*anything(), "y", ("x",), ["x"]]:
            self.assertIs(is_whose(NET, WHOLE, WAVERS, (word, lot, paper, names)), False)
            self.assertIs(is_whose(NET, NOBODYS, WAVERS, (word, lot, paper, names)), lot is None)

    def test_wider_bounds(self):
        net = Net(SMALL, {1: ("a", "b", 3, 5), 2: ("a", "b", 2, 9), 3: ("b", "c", 4, 4)})
        point = (("a", 2), ("e", -1))
        narrow = whose(net, WHOLE, point)
        self.assertEqual(narrow[2][:2], ((0, 0), (0, 0)))
        wide = ((0, 1), (0, 0), ((), ((3, "least"), (1, "least")), *narrow[2][2][2:]))
        self.assertIs(is_bounds(net, point, wide), True)
        self.assertIs(is_whose(net, WHOLE, point, ("one", "x", wide, ())), True)
        # Of wider bounds all cells have to be that lot's, though the point lies in none of the others.
        self.assertIs(is_whose(net, WESTERN, point, ("one", "x", wide, ())), False)
        self.assertIs(is_whose(net, WESTERN, point, narrow), True)
        self.assertIs(is_whose(net, EASTERN, point, ("one", None, wide, ())), False)
        self.assertIs(is_whose(net, NOBODYS, point, ("one", None, wide, ())), True)
        wider = ((0, 2), (0, 0), ((), None, *narrow[2][2][2:]))
        self.assertIs(is_whose(net, NOBODYS, point, ("one", None, wider, ())), True)
        self.assertIs(is_whose(net, WHOLE, point, ("one", "x", wider, ())), False)

    def test_bounds_of_wider_rows(self):
        net = Net(WIDE, {})
        land = land_of(WIDE, granted("x", (0, 0)))
        point = (("a", 0), ("d", 0))
        narrow = whose(net, land, point)
        self.assertEqual(narrow[:2], ("one", "x"))
        ways = narrow[2][2]
        wide = ((0, 0), (0, 2), (*ways[:3], None))
        self.assertIs(is_bounds(net, point, wide), True)
        self.assertIs(is_whose(net, land, point, ("one", "x", wide, ())), False)
        self.assertIs(is_whose(net, land_of(WIDE), point, ("one", None, wide, ())), True)

    def test_other_rings(self):
        net = Net(SMALL, {4: ("a", "b", 5, 3), 6: ("d", "e", 2, 1), 9: ("a", "b", 6, 6)})
        for ring in [((4, "most"), (4, "least")), ((4, "least"), (4, "most")), ((6, "most"), (6, "least")),
                     ((4, "most"), (9, "least")), ((4, "most"), (4, "least")) * 2]:
            self.assertIs(is_whose(net, WHOLE, WAVERS, ("none", ring)), True)
        for ring in [(), ((9, "most"), (9, "least")), ((4, "most"),), ((4, "most"), (6, "least")), ((9, "most"), (0, "b")), None]:
            self.assertIs(is_whose(net, WHOLE, WAVERS, ("none", ring)), False)

    def test_where_there_is_no_ground_nothing_else_is_told(self):
        net = Net(SMALL, {4: ("d", "e", 2, 1)})
        paper = bounds(Net(SMALL, {}), WESTWARD)
        self.assertIs(is_bounds(net, WESTWARD, paper), True)
        for land in LANDS:
            for lot in (None, "x", "y"):
                self.assertIs(is_whose(net, land, WESTWARD, ("one", lot, paper, ())), False)
        self.assertIs(is_whose(NET, WHOLE, WESTWARD, ("none", net.ring())), False)

    def test_other_grounds(self):
        far = {"a": 0, "b": 5, "c": 9, "d": 0, "e": 90}
        near = {"a": 0, "b": 4, "c": 8, "d": 0, "e": 2}
        middle = {"a": 0, "b": 3, "c": 7, "d": 0, "e": 2}
        turned = {line: near[line] for line in "ecbda"}
        for land, one, other in [(BOTH, "x", "y"), (WESTERN, "x", None), (EASTERN, None, "x")]:
            for ground in (near, turned, middle):
                self.assertIs(is_whose(NET, land, WAVERS, ("open", far, one, ground, other)), True)
                self.assertIs(is_whose(NET, land, WAVERS, ("open", ground, other, far, one)), True)
                self.assertIs(is_whose(NET, land, WAVERS, ("open", ground, one, far, other)), False)
                self.assertIs(is_whose(NET, land, WAVERS, ("open", far, one, ground, one)), False)
                self.assertIs(is_whose(NET, land, WAVERS, ("open", ground, other, ground, other)), False)
        self.assertIs(is_whose(NET, WHOLE, WAVERS, ("open", far, "x", near, "x")), False)
        for wrong in [{**far, "b": 6}, {**far, "b": True}, {**far, "e": 1}, {**far, "f": 99}, {"a": 0}, list(far)]:
            self.assertIs(is_whose(NET, BOTH, WAVERS, ("open", wrong, "x", near, "y")), False)
            self.assertIs(is_whose(NET, BOTH, WAVERS, ("open", near, "y", wrong, "x")), False)

    def test_no_point(self):
        answer = whose(NET, WHOLE, WAVERS)
        for net in (NET, BAD):
            for thing in [*anything(), *NO_POINTS.values()]:
                with self.subTest(thing=thing):
                    self.assertRaises(NoPoint, is_whose, net, WHOLE, thing, answer)
                    self.assertRaises(NoPoint, is_whose, net, WHOLE, thing, thing)

    def test_by_names_in_any_order(self):
        self.assertIs(is_whose(thing=whose(NET, WHOLE, WAVERS), point=WAVERS, land=WHOLE, net=NET), True)

    def test_what_is_handed_in_is_left(self):
        answer = whose(NET, BOTH, WAVERS)
        kept = repr(answer)
        is_whose(NET, BOTH, WAVERS, answer)
        self.assertEqual(repr(answer), kept)
        for thing in (["one", "x", [[0, 1]], []], nested(list, 20)):
            kept = repr(thing)
            is_whose(NET, BOTH, WAVERS, thing)
            self.assertEqual(repr(thing), kept)
        self.assertEqual(BOTH, land_of(SMALL, granted("x", (0, 0)), granted("y", (1, 0)), ("way", "road", ((0, 0), (1, 0))),
                                       ("way", "path", ((0, 0),))))
        self.assertEqual(may_lie(NET, WAVERS), ((0, 1), (0, 0)))


if __name__ == "__main__":
    unittest.main()
