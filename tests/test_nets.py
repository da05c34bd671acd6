"""Points [20], [21] and [22]: grounds, ways, rings and nets; and point [3] as far as it speaks of these."""

import functools
import unittest

from lothouse.errors import LotError, NoGround, NoLine, NoPlan, NoSight
from lothouse.nets import Net
from lothouse.plans import Plan
from tests.grounds import FAR, SMALL, grounds, some_sights, steps_of, ways_of
from tests.things import anything, nested

PLAN = Plan(["a", "b", "c"], ["d", "e"])
WIDE = Plan(["a", "b", "c", "d", "e", "f", "g", "h"], ["i", "j", "k", "l", "m", "n", "o", "p"])
SIGHTS = {7: ("a", "b", 3, 5), 2: ("c", "b", -9, None), 90: ("d", "e", None, 4)}
NO_GROUND = {4: ("a", "b", None, 5), 5: ("b", "c", None, 2), 6: ("a", "c", 9, None)}
NET = Net(PLAN, SIGHTS)
BAD = Net(PLAN, NO_GROUND)
MOST = 10 ** 9


@functools.cache
def seeded():
    """Nets over SMALL with all grounds of each that lie near: of some there are none."""
    found = []
    for seed in range(250):
        sights = some_sights(seed, seed % 6)
        found.append((Net(SMALL, sights), sights, grounds(SMALL, sights.values())))
    return found


class Making(unittest.TestCase):
    def no_sight(self, number, sights):
        with self.assertRaises(NoSight) as caught:
            Net(PLAN, sights)
        self.assertEqual(caught.exception.number, number)
        self.assertIs(type(caught.exception.number), int)

    def test_what_it_was_made_of(self):
        self.assertEqual(NET.plan(), PLAN)
        self.assertEqual(NET.sights(), SIGHTS)
        self.assertEqual(Net(PLAN, {}).sights(), {})

    def test_no_plan(self):
        for thing in anything():
            with self.subTest(thing=thing):
                self.assertRaises(NoPlan, Net, thing, {})
                self.assertRaises(NoPlan, Net, thing, thing)

    def test_no_plan_ahead_of_no_sights(self):
        self.assertRaises(NoPlan, Net, None, None)
        self.assertRaises(NoPlan, Net, (PLAN,), {1: None})

    def test_no_dict_of_numbers(self):
        for thing in anything():
            if thing != {}:
                with self.subTest(thing=thing):
                    self.no_sight(0, thing)
        self.no_sight(0, [("a", "b", 3, 5)])
        self.no_sight(0, [(1, ("a", "b", 3, 5))])

    def test_numbers_from_1_to_200(self):
        sight = ("a", "b", 3, 5)
        self.assertEqual(Net(PLAN, {1: sight, 200: sight}).sights(), {1: sight, 200: sight})
        for number in (0, -1, 201, 10 ** 39, True, False, None, "1", "", (1,), ()):
            with self.subTest(number=number):
                self.no_sight(0, {number: sight})
                self.no_sight(0, {2: sight, number: sight})
                self.no_sight(0, {number: sight, 2: None})

    def test_at_most_sixty(self):
        sight = ("a", "b", 3, 5)
        sixty = {number: sight for number in range(1, 61)}
        self.assertEqual(Net(PLAN, sixty).sights(), sixty)
        self.no_sight(0, {**sixty, 61: sight})
        self.no_sight(0, {**sixty, 200: None})
        self.no_sight(0, {number: None for number in range(1, 201)})

    def test_the_least_number_that_leads_to_no_sight(self):
        sight = ("a", "b", 3, 5)
        for thing in anything():
            with self.subTest(thing=thing):
                self.no_sight(9, {9: thing})
                self.no_sight(9, {9: thing, 200: sight, 1: sight})
                self.no_sight(9, {200: thing, 30: thing, 9: thing, 1: sight, 10: thing})
        for thing in [("a", "d", 3, 5), ("a", "b", None, None), ["a", "b", 3, 5], ("a", "b", True, 5), ("a", "x", 3, 5)]:
            with self.subTest(thing=thing):
                self.no_sight(9, {10: thing, 9: thing, 8: sight})

    def test_sights_are_told_anew(self):
        net = Net(PLAN, SIGHTS)
        told = net.sights()
        self.assertIs(type(told), dict)
        told.clear()
        net.sights()[7] = None
        self.assertEqual(net.sights(), SIGHTS)
        self.assertEqual(net.most("a", "b"), 5)

    def test_what_was_handed_in_is_left_and_may_change(self):
        sights = {7: ("a", "b", 3, 5), 2: ("b", "c", 1, None)}
        net = Net(PLAN, sights)
        self.assertEqual(list(sights.items()), [(7, ("a", "b", 3, 5)), (2, ("b", "c", 1, None))])
        sights[7] = ("a", "b", 9, 9)
        sights[1] = None
        self.assertEqual(net.sights(), {7: ("a", "b", 3, 5), 2: ("b", "c", 1, None)})
        self.assertEqual((net.least("a", "b"), net.most("a", "b")), (3, 5))
        del sights[2]
        self.assertIs(net.is_way("c", "b", ((2, "least"),)), True)

    def test_by_names_in_any_order(self):
        self.assertEqual(Net(sights=SIGHTS, plan=PLAN).sights(), SIGHTS)


class Rings(unittest.TestCase):
    def test_none_where_there_is_a_ground(self):
        self.assertIsNone(NET.ring())
        self.assertIsNone(Net(PLAN, {}).ring())
        self.assertIsNone(Net(PLAN, {1: ("a", "b", 5, 5), 2: ("b", "c", 5, 5), 3: ("a", "c", 10, 10)}).ring())

    def test_the_only_one(self):
        self.assertEqual(sorted(BAD.ring()), [(4, "most"), (5, "most"), (6, "least")])
        self.assertIs(BAD.is_ring(BAD.ring()), True)
        self.assertEqual(BAD.worth(BAD.ring()), -2)

    def test_by_one_sight_alone(self):
        self.assertEqual(sorted(Net(PLAN, {3: ("a", "b", 7, 3)}).ring()), [(3, "least"), (3, "most")])
        self.assertEqual(sorted(Net(PLAN, {3: ("a", "b", None, 0)}).ring()), [(0, "b"), (3, "most")])
        self.assertEqual(sorted(Net(PLAN, {3: ("b", "a", 0, None)}).ring()), [(0, "b"), (3, "least")])
        self.assertEqual(sorted(Net(PLAN, {3: ("e", "d", 5, None)}).ring()), [(0, "e"), (3, "least")])
        self.assertEqual(sorted(Net(PLAN, {3: ("a", "c", None, 1)}).ring()), [(0, "b"), (0, "c"), (3, "most")])

    def test_the_fewest_steps_of_both_families(self):
        sights = {1: ("a", "h", None, 6), 2: ("i", "k", None, 1)}
        self.assertEqual(len(Net(WIDE, {1: sights[1]}).ring()), 8)
        self.assertEqual(sorted(Net(WIDE, sights).ring()), [(0, "j"), (0, "k"), (2, "most")])
        turned = Plan(WIDE.levels(), WIDE.uprights())
        self.assertEqual(sorted(Net(turned, sights).ring()), [(0, "j"), (0, "k"), (2, "most")])

    def test_the_fewest_steps_though_another_is_worth_less(self):
        sights = {1: ("a", "b", None, 0), 2: ("a", "c", None, 5), 3: ("c", "b", None, -900)}
        self.assertEqual(sorted(Net(PLAN, sights).ring()), [(0, "b"), (1, "most")])

    def test_against_a_plain_search(self):
        found = 0
        for net, sights, near in seeded():
            told = net.ring()
            steps = steps_of(SMALL, sights)
            back = [way for line in "abcde" for way, end, worth in ways_of(steps, line, 3) if end == line and worth < 0]
            self.assertEqual(told is None, back == [], sights)
            self.assertEqual(told is None, near != [], sights)
            if told is not None:
                self.assertIn(told, back)
                self.assertEqual(len(told), min(map(len, back)))
                self.assertIs(net.is_ring(told), True)
                found += 1
        self.assertGreater(found, 50)

    def test_the_same_whenever_asked_in_whatever_order_sights_came(self):
        for seed in range(60):
            sights = some_sights(seed, 5)
            turned = dict(reversed(list(sights.items())))
            one, other = Net(SMALL, sights), Net(SMALL, turned)
            self.assertEqual(one.ring(), other.ring())
            self.assertEqual(one.ring(), one.ring())
            self.assertEqual(one.ground(), other.ground())
            if one.ring() is None:
                self.assertEqual([one.way("a", line) for line in "abc"], [other.way("a", line) for line in "abc"])


class Between(unittest.TestCase):
    def test_one_net(self):
        self.assertEqual((NET.least("a", "b"), NET.most("a", "b")), (3, 5))
        self.assertEqual((NET.least("b", "a"), NET.most("b", "a")), (-5, -3))
        self.assertEqual((NET.least("b", "c"), NET.most("b", "c")), (1, 9))
        self.assertEqual((NET.least("a", "c"), NET.most("a", "c")), (4, 14))
        self.assertEqual((NET.least("d", "e"), NET.most("d", "e")), (1, 4))
        self.assertEqual(NET.way("a", "c"), ((7, "most"), (2, "least")))
        self.assertEqual(NET.way("c", "a"), ((0, "c"), (7, "least")))
        self.assertEqual(NET.way("e", "d"), ((0, "e"),))

    def test_where_nothing_bounds(self):
        net = Net(PLAN, {})
        self.assertEqual((net.least("a", "c"), net.most("a", "c"), net.way("a", "c")), (2, None, None))
        self.assertEqual((net.least("c", "a"), net.most("c", "a")), (None, -2))
        self.assertEqual(net.way("c", "a"), ((0, "c"), (0, "b")))
        self.assertEqual((net.least("e", "d"), net.most("e", "d"), net.way("e", "d")), (None, -1, ((0, "e"),)))

    def test_a_line_and_itself(self):
        for net in (NET, Net(PLAN, {})):
            for line in "abcde":
                told = (net.least(line, line), net.most(line, line), net.way(line, line))
                self.assertEqual(told, (0, 0, ()))

    def test_far_numbers(self):
        net = Net(PLAN, {1: ("a", "b", MOST, MOST), 2: ("b", "c", None, MOST)})
        self.assertEqual((net.least("a", "c"), net.most("a", "c")), (MOST + 1, 2 * MOST))

    def test_of_the_fewest_steps_of_all_that_are_worth_as_much(self):
        sights = {1: ("a", "b", None, 2), 2: ("b", "c", None, 3), 3: ("a", "c", None, 5), 9: ("c", "a", None, -2)}
        self.assertEqual(Net(PLAN, sights).way("a", "c"), ((3, "most"),))
        self.assertEqual(Net(PLAN, sights).way("c", "a"), ((9, "most"),))
        sights[3] = ("a", "c", None, 6)
        self.assertEqual(Net(PLAN, sights).way("a", "c"), ((1, "most"), (2, "most")))
        sights[3] = ("c", "a", -5, None)
        self.assertEqual(Net(PLAN, sights).way("a", "c"), ((3, "least"),))

    def test_a_long_way(self):
        lines = WIDE.levels()
        net = Net(WIDE, {k: (lines[k - 1], lines[k], None, k) for k in range(1, 8)})
        self.assertEqual(net.most("i", "p"), 28)
        self.assertEqual(net.way("i", "p"), tuple((k, "most") for k in range(1, 8)))
        self.assertEqual(net.way("p", "i"), tuple((0, line) for line in reversed(lines[1:])))
        self.assertIsNone(net.most("a", "h"))

    def test_against_plain_reckoning(self):
        reckoned = 0
        for net, sights, near in seeded():
            if not near:
                continue
            steps = steps_of(SMALL, sights)
            for one, other in [(one, other) for lines in ("abc", "de") for one in lines for other in lines]:
                far = [ground[other] - ground[one] for ground in near]
                self.bounded(net.most(one, other), max(far))
                self.bounded(net.least(one, other), min(far))
                ways = [way for way, end, worth in ways_of(steps, one, 3) if end == other and worth == net.most(one, other)]
                if net.most(one, other) is None:
                    self.assertIsNone(net.way(one, other))
                else:
                    self.assertIn(net.way(one, other), ways)
                    self.assertEqual(len(net.way(one, other)), min(map(len, ways)))
                    self.assertEqual(net.worth(net.way(one, other)), net.most(one, other))
                reckoned += 1
        self.assertGreater(reckoned, 500)

    def bounded(self, told, reckoned):
        """Sights over three lines bound them to much less than FAR, where they do."""
        if told is None:
            self.assertGreater(abs(reckoned), FAR - 5)
        else:
            self.assertEqual(told, reckoned)
            self.assertLess(abs(reckoned), FAR)

    def no_line(self, line, net, one, other):
        for method in (net.most, net.least, net.way):
            with self.assertRaises(NoLine) as caught:
                method(one, other)
            self.assertIs(type(caught.exception.line), type(line))
            self.assertEqual(caught.exception.line, line)

    def test_no_line(self):
        for net in (NET, BAD):
            for thing in [*anything(), "x", "abc", ("a",), PLAN]:
                with self.subTest(thing=thing):
                    if thing != "a":
                        self.no_line(thing, net, thing, "b")
                        self.no_line(thing, net, "b", thing)
                        self.no_line(thing, net, thing, "x")
                        self.no_line("y", net, "y", thing)

    def test_lines_of_unlike_families(self):
        for net in (NET, BAD):
            for upright in "abc":
                for level in "de":
                    self.no_line(level, net, upright, level)
                    self.no_line(upright, net, level, upright)

    def test_no_ground(self):
        for one, other in [("a", "b"), ("c", "a"), ("d", "e"), ("a", "a"), ("e", "e")]:
            for method in (BAD.most, BAD.least, BAD.way):
                with self.assertRaises(NoGround) as caught:
                    method(one, other)
                self.assertEqual(caught.exception.steps, BAD.ring())

    def test_by_names_in_any_order(self):
        self.assertEqual(NET.most(other="b", one="a"), 5)
        self.assertEqual(NET.least(other="b", one="a"), 3)
        self.assertEqual(NET.way(other="b", one="a"), ((7, "most"),))


class Grounds(unittest.TestCase):
    def test_told_in_the_order_of_the_lines(self):
        told = NET.ground()
        self.assertEqual(list(told), ["a", "b", "c", "d", "e"])
        self.assertIn(told, grounds(PLAN, SIGHTS.values()))
        other = Net(Plan(["z", "b"], ["y", "a"]), {}).ground()
        self.assertEqual(list(other), ["z", "b", "y", "a"])

    def test_none_where_there_is_none(self):
        self.assertIsNone(BAD.ground())
        self.assertIsNone(BAD.ground(more=[("a", "b", 1, None)]))

    def test_against_plain_reckoning(self):
        for net, sights, near in seeded():
            told = net.ground()
            if near:
                self.assertIn(told, near)
                self.assertIs(net.is_ground(told), True)
            else:
                self.assertIsNone(told)

    def test_more_against_plain_reckoning(self):
        for seed in range(150):
            net = Net(SMALL, some_sights(seed, 2))
            more = list(some_sights(seed + 1000, seed % 4).values())
            near = grounds(SMALL, [*net.sights().values(), *more])
            told = net.ground(more=more)
            if near:
                self.assertIn(told, near)
            else:
                self.assertIsNone(told)
            self.assertEqual(net.ground(more=tuple(more)), told)

    def test_more_changes_nothing(self):
        more = [("a", "b", 4, 4), ("a", "c", 12, 12)]
        self.assertEqual([NET.ground(more=more)[line] for line in "abc"], [0, 4, 12])
        self.assertEqual(more, [("a", "b", 4, 4), ("a", "c", 12, 12)])
        self.assertEqual(NET.sights(), SIGHTS)
        self.assertEqual(NET.most("a", "b"), 5)
        self.assertIsNone(NET.ground(more=[("a", "b", 6, None)]))
        self.assertIsNone(NET.ring())

    def test_the_bounds_are_reached(self):
        for line in "bc":
            for far in (NET.least("a", line), NET.most("a", line)):
                self.assertEqual(NET.ground(more=[("a", line, far, far)])[line], far)
            self.assertIsNone(NET.ground(more=[("a", line, NET.most("a", line) + 1, None)]))
            self.assertIsNone(NET.ground(more=[("a", line, None, NET.least("a", line) - 1)]))

    def test_no_sight_among_more(self):
        fine = ("a", "b", 4, 4)
        for net in (NET, BAD):
            for thing in [*anything(), ("a", "d", 1, 2), ["a", "b", 4, 4], ("a", "b", None, None)]:
                with self.subTest(thing=thing):
                    self.no_sight(1, net, [thing])
                    self.no_sight(2, net, [fine, thing, fine])
                    self.no_sight(3, net, (fine, fine, thing, thing, None))

    def test_more_that_is_no_list(self):
        for thing in (None, 0, 1, True, "", "ab", {}, {1: ("a", "b", 4, 4)}):
            with self.subTest(thing=thing):
                self.no_sight(0, NET, thing)

    def no_sight(self, number, net, more):
        with self.assertRaises(NoSight) as caught:
            net.ground(more=more)
        self.assertEqual(caught.exception.number, number)

    def test_more_than_sixty(self):
        more = [("a", "b", 4, 4)] * 100
        self.assertEqual(NET.ground(more=more)["b"], 4)

    def test_more_goes_by_name_alone(self):
        self.assertRaises(TypeError, NET.ground, [])

    def test_a_new_dict_each_time(self):
        told = NET.ground()
        self.assertIs(type(told), dict)
        kept = dict(told)
        told.clear()
        self.assertEqual(NET.ground(), kept)

    def test_is_ground(self):
        fine = {"a": 0, "b": 4, "c": 6, "d": 0, "e": 2}
        self.assertIs(NET.is_ground(fine), True)
        self.assertIs(NET.is_ground(dict(sorted(fine.items(), reverse=True))), True)
        for line, at in [("b", 2), ("b", 6), ("c", 14), ("c", 4), ("c", 3), ("e", 5), ("e", 0), ("e", -1), ("a", 1),
                         ("d", 1), ("a", -1), ("d", -1), ("b", 4.5), ("b", "4"), ("b", None), ("a", False), ("e", True),
                         ("d", None), ("b", [4]), ("x", 4)]:
            with self.subTest(line=line, at=at):
                self.assertIs(NET.is_ground({**fine, line: at}), False)
        for line in fine:
            short = {other: fine[other] for other in fine if other != line}
            self.assertIs(NET.is_ground(short), False)
            self.assertIs(NET.is_ground({**short, "x": fine[line]}), False)
            self.assertIs(NET.is_ground({**short, 0: fine[line]}), False)

    def test_is_ground_of_the_first_lines_at_nought(self):
        net = Net(PLAN, {})
        self.assertIs(net.is_ground({"a": 0, "b": 1, "c": 2, "d": 0, "e": 1}), True)
        self.assertIs(net.is_ground({"a": 1, "b": 2, "c": 3, "d": 0, "e": 1}), False)
        self.assertIs(net.is_ground({"a": 0, "b": 1, "c": 2, "d": 5, "e": 6}), False)
        self.assertIs(net.is_ground({"a": 0, "b": 10 ** 20, "c": 10 ** 30, "d": 0, "e": 10 ** 39}), True)
        self.assertIs(net.is_ground({"a": 0, "b": 2, "c": 2, "d": 0, "e": 1}), False)
        self.assertIs(net.is_ground({"a": 0, "b": 3, "c": 2, "d": 0, "e": 1}), False)

    def test_is_ground_of_anything(self):
        for thing in [*anything(), [("a", 0)], list("abcde"), PLAN]:
            with self.subTest(thing=thing):
                self.assertIs(NET.is_ground(thing), False)
                self.assertIs(BAD.is_ground(thing), False)
                self.assertIs(NET.is_ground({"a": 0, "b": thing, "c": 6, "d": 0, "e": 2}), False)

    def test_is_ground_against_plain_reckoning(self):
        every = grounds(SMALL, [])
        for net, _, near in seeded()[:40]:
            self.assertEqual([ground for ground in every if net.is_ground(ground)], near)


class Ways(unittest.TestCase):
    def test_is_way(self):
        for one, other, way in [
            ("a", "a", ()), ("d", "d", ()), ("a", "b", ((7, "most"),)), ("b", "a", ((7, "least"),)),
            ("b", "c", ((2, "least"),)), ("d", "e", ((90, "most"),)), ("b", "a", ((0, "b"),)), ("c", "b", ((0, "c"),)),
            ("e", "d", ((0, "e"),)), ("c", "a", ((0, "c"), (0, "b"))), ("a", "c", ((7, "most"), (2, "least"))),
            ("a", "a", ((7, "most"), (7, "least"))), ("a", "b", ((7, "most"), (0, "b"), (7, "most"))),
        ]:
            with self.subTest(way=way):
                self.assertIs(NET.is_way(one, other, way), True)
                for end in "abcde":
                    self.assertIs(NET.is_way(one, end, way), end == other)
                    self.assertIs(NET.is_way(end, other, way), end == one)

    def test_ways_against_plain_reckoning(self):
        for net, sights, _ in seeded()[::10]:
            steps = steps_of(SMALL, sights)
            ways = {line: [(way, end) for way, end, _ in ways_of(steps, line, 2)] for line in "abcde"}
            every = sorted({way for line in "abcde" for way, _ in ways[line]})
            for one in "abcde":
                for other in "abcde":
                    akin = (one in "de") == (other in "de")
                    for way in every:
                        self.assertIs(net.is_way(one, other, way), akin and (way, other) in ways[one])

    def test_no_ways(self):
        for why, thing in {
            "a step too few": ((7, "most"),),
            "a step too many": ((7, "most"), (2, "least"), (0, "c")),
            "none": (),
            "not from there": ((2, "least"),),
            "not from where the one ahead led": ((7, "most"), (7, "most"), (2, "least")),
            "the other way about": ((2, "least"), (7, "most")),
            "steps of None": ((7, "most"), (2, "most")),
            "no such sight": ((8, "most"), (2, "least")),
            "no such word": ((7, "more"), (2, "least")),
            "a line in a word's place": ((7, "a"), (2, "least")),
            "a list": [(7, "most"), (2, "least")],
            "a list within": ([7, "most"], (2, "least")),
            "a list within, behind": ((7, "most"), [2, "least"]),
            "texts": (("7", "most"), ("2", "least")),
            "three parts": ((7, "most", 5), (2, "least", 9)),
            "one part": ((7,), (2,)),
            "the sights": (SIGHTS[7], SIGHTS[2]),
            "a dict": {(7, "most"): 0, (2, "least"): 0},
        }.items():
            with self.subTest(why):
                self.assertIs(NET.is_way("a", "c", thing), False)

    def test_truths_are_no_numbers_of_steps(self):
        net = Net(PLAN, {1: ("a", "b", 3, 5)})
        self.assertIs(net.is_way("a", "b", ((1, "most"),)), True)
        self.assertIs(net.is_way("a", "b", ((True, "most"),)), False)
        self.assertIs(net.is_way("b", "a", ((0, "b"),)), True)
        self.assertIs(net.is_way("b", "a", ((False, "b"),)), False)
        self.assertIs(net.is_ring(((True, "most"), (0, "b"))), False)

    def test_no_step_from_a_first_line(self):
        for line in "ad":
            for other in "abcde":
                self.assertIs(NET.is_way(line, other, ((0, line),)), False)
        self.assertIs(NET.is_way("a", "a", ((0, "x"),)), False)
        self.assertIs(NET.is_way("d", "c", ((0, "d"),)), False)

    def test_none_lead_from_a_line_to_another(self):
        for one in "abcde":
            for other in "abcde":
                self.assertIs(NET.is_way(one, other, ()), one == other)

    def test_lines_that_are_called_as_words_are(self):
        net = Net(Plan(["a", "most"], ["least", "b"]), {3: ("a", "most", 2, 4)})
        self.assertIs(net.is_way("most", "a", ((0, "most"),)), True)
        self.assertIs(net.is_way("a", "most", ((3, "most"),)), True)
        self.assertIs(net.is_way("least", "b", ((0, "least"),)), False)
        self.assertIs(net.is_way("b", "least", ((0, "b"),)), True)

    def test_ways_are_told_of_nets_without_ground(self):
        self.assertIs(BAD.is_way("a", "c", ((4, "most"), (5, "most"))), True)
        self.assertEqual(BAD.worth(((4, "most"), (5, "most"))), 7)

    def test_is_way_of_anything(self):
        for thing in [*anything(), PLAN]:
            with self.subTest(thing=thing):
                self.assertIs(NET.is_way("a", "b", thing), False)
                self.assertIs(NET.is_way("a", "b", (thing,)), False)
                self.assertIs(NET.is_way("a", "b", ((7, "most"), thing)), False)
                self.assertIs(NET.is_way("a", "b", ((thing, "most"),)), False)
                self.assertIs(NET.is_way("b", "a", ((0, thing),)), False)
                self.assertIs(NET.is_way("a", "b", ((7, thing),)), False)
                self.assertIs(NET.is_way("a", "d", thing), False)

    def test_is_way_of_no_line(self):
        for thing in [*anything(), "x", PLAN]:
            if thing != "a":
                with self.subTest(thing=thing):
                    self.no_line(thing, thing, "a")
                    self.no_line(thing, "a", thing)
                    self.no_line(thing, thing, "x")
                    self.no_line(thing, "d", thing)

    def no_line(self, line, one, other):
        for way in ((), None, ((7, "most"),)):
            with self.assertRaises(NoLine) as caught:
                NET.is_way(one, other, way)
            self.assertEqual(caught.exception.line, line)

    def test_worth(self):
        self.assertEqual(NET.worth(()), 0)
        self.assertEqual(NET.worth(((7, "most"),)), 5)
        self.assertEqual(NET.worth(((7, "least"),)), -3)
        self.assertEqual(NET.worth(((0, "c"),)), -1)
        self.assertEqual(NET.worth(((7, "most"), (2, "least"), (0, "c"), (0, "b"))), 5 + 9 - 1 - 1)

    def test_is_ring(self):
        ring = ((4, "most"), (5, "most"), (6, "least"))
        for k in range(3):
            self.assertIs(BAD.is_ring((*ring[k:], *ring[:k])), True)
        self.assertIs(BAD.is_ring((*ring, *ring)), True)
        for why, thing in {
            "no step": (),
            "not back": ring[:2],
            "not from where the one ahead led": (ring[0], ring[2], ring[1]),
            "worth more than 0": ((4, "most"), (0, "b")),
            "a list": list(ring),
            "a list within": (ring[0], ring[1], list(ring[2])),
            "a step more": (*ring, ring[0]),
        }.items():
            with self.subTest(why):
                self.assertIs(BAD.is_ring(thing), False)

    def test_a_ring_is_worth_less_than_nought(self):
        for most, told in [(-5, True), (0, True), (1, False), (2, False)]:
            net = Net(PLAN, {1: ("a", "b", None, most)})
            self.assertIs(net.is_ring(((1, "most"), (0, "b"))), told)
            self.assertIs(net.is_ring(((0, "b"), (1, "most"))), told)

    def test_is_ring_of_anything(self):
        for thing in [*anything(), PLAN]:
            for net in (NET, BAD):
                with self.subTest(thing=thing):
                    self.assertIs(net.is_ring(thing), False)
                    self.assertIs(net.is_ring((thing,)), False)
                    self.assertIs(net.is_ring(((4, "most"), thing)), False)
                    self.assertIs(net.is_ring(((4, "most"), (5, "most"), (6, thing))), False)
                    self.assertIs(net.is_ring(((thing, "most"), (0, "b"))), False)

    def test_rings_against_plain_reckoning(self):
        for net, sights, _ in seeded()[1::10]:
            for line in "abcde":
                for way, end, worth in ways_of(steps_of(SMALL, sights), line, 3):
                    self.assertIs(net.is_ring(way), way != () and end == line and worth < 0)

    def test_by_names_in_any_order(self):
        self.assertIs(NET.is_way(thing=((7, "most"),), other="b", one="a"), True)
        self.assertIs(BAD.is_ring(thing=BAD.ring()), True)
        self.assertIs(NET.is_ground(thing=NET.ground()), True)
        self.assertEqual(NET.worth(way=((7, "most"),)), 5)

    def test_what_is_handed_in_is_left(self):
        for thing in ([(7, "most")], ([7, "most"],), {"a": [0]}, nested(list, 20), {"e": 2, "a": 0, "b": 4, "c": 6, "d": 0}):
            before = repr(thing)
            NET.is_way("a", "b", thing)
            NET.is_ring(thing)
            NET.is_ground(thing)
            self.assertEqual(repr(thing), before)

    def test_refusals_are_lot_errors(self):
        self.assertRaises(LotError, NET.most, "a", "d")
        self.assertRaises(LotError, BAD.most, "a", "b")
        self.assertRaises(LotError, Net, None, {})


if __name__ == "__main__":
    unittest.main()
