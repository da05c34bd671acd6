"""Point [10], and point [3] as far as it speaks of names and plans."""

import unittest

from lothouse.errors import LotError, NoLine, NoPlan
from lothouse.plans import Plan, is_name
from tests.things import anything

EIGHT = ["a", "b", "c", "d", "e", "f", "g", "h"]
OTHER_EIGHT = ["i", "j", "k", "l", "m", "n", "o", "p"]


class Names(unittest.TestCase):
    def test_one_to_eight_small_letters(self):
        for thing in ["a", "z", "az", "east", "abcdefgh", "zzzzzzzz"]:
            with self.subTest(thing):
                self.assertIs(is_name(thing), True)

    def test_all_small_letters(self):
        for letter in "abcdefghijklmnopqrstuvwxyz":
            self.assertIs(is_name(letter), True)

    def test_no_signs_but_small_letters(self):
        others = [chr(k) for k in range(32, 127) if not "a" <= chr(k) <= "z"]
        for sign in [*others, "\n"]:
            for text in (sign, "a" + sign, sign + "a", "a" + sign + "b"):
                with self.subTest(text=text):
                    self.assertIs(is_name(text), False)

    def test_not_too_short_nor_too_long(self):
        for text in ["", "abcdefghi", "a" * 4000]:
            self.assertIs(is_name(text), False)

    def test_anything_else_is_no_name(self):
        things = [thing for thing in anything() if not isinstance(thing, str)]
        for thing in [*things, ["a", "b"], ("a",), {"a": "a"}]:
            with self.subTest(thing=thing):
                self.assertIs(is_name(thing), False)

    def test_by_name(self):
        self.assertIs(is_name(thing="east"), True)


class Making(unittest.TestCase):
    def refused(self, uprights, levels):
        with self.subTest(uprights=uprights, levels=levels):
            with self.assertRaises(LotError) as caught:
                Plan(uprights, levels)
            self.assertIs(type(caught.exception), NoPlan)

    def test_least_and_greatest(self):
        for many in (2, 8):
            for other_many in (2, 8):
                plan = Plan(EIGHT[:many], OTHER_EIGHT[:other_many])
                self.assertEqual(len(plan.uprights()), many)
                self.assertEqual(len(plan.levels()), other_many)

    def test_too_few_or_too_many(self):
        nine = ["q", *EIGHT]
        for few in ([], ["a"], nine, (), ("a",), tuple(nine)):
            self.refused(few, ["x", "y"])
            self.refused(["x", "y"], few)

    def test_lists_and_tuples(self):
        for uprights in (["a", "b"], ("a", "b")):
            for levels in (["x", "y", "z"], ("x", "y", "z")):
                plan = Plan(uprights, levels)
                self.assertEqual(plan.uprights(), ("a", "b"))
                self.assertEqual(plan.levels(), ("x", "y", "z"))

    def test_a_name_twice(self):
        self.refused(["a", "a"], ["x", "y"])
        self.refused(["a", "b", "a"], ["x", "y"])
        self.refused(["a", "b"], ["x", "x"])
        self.refused(["a", "b"], ["x", "y", "x"])
        self.refused(["a", "b"], ["b", "y"])
        self.refused(["a", "b"], ["x", "y", "a"])
        self.refused(["a", "b"], ["a", "b"])

    def test_no_name_at_any_place(self):
        things = [thing for thing in anything() if not is_name(thing)]
        for thing in things:
            for names in ([thing, "a"], ["a", thing], ["a", thing, "b"], ("a", "b", thing)):
                self.refused(names, ["x", "y"])
                self.refused(["x", "y"], names)

    def test_no_list_at_all(self):
        for thing in [*anything(), "ab", {"a": 1, "b": 2}, {"a": "a", "b": "b", "c": "c"}, Plan(["a", "b"], ["c", "d"])]:
            self.refused(thing, ["x", "y"])
            self.refused(["x", "y"], thing)
            self.refused(thing, thing)

    def test_by_names_in_any_order(self):
        plan = Plan(levels=["x", "y"], uprights=["a", "b"])
        self.assertEqual(plan, Plan(["a", "b"], ["x", "y"]))

    def test_what_is_handed_in_is_left_and_forgotten(self):
        uprights, levels = ["a", "b"], ["x", "y"]
        plan = Plan(uprights, levels)
        self.assertEqual((uprights, levels), (["a", "b"], ["x", "y"]))
        uprights.append("c")
        levels[0] = "z"
        self.assertEqual(plan, Plan(["a", "b"], ["x", "y"]))
        self.assertEqual((plan.uprights(), plan.levels()), (("a", "b"), ("x", "y")))
        self.assertEqual((len(plan), plan.cells()), (1, ((0, 0),)))

    def test_a_refusal_leaves_what_is_handed_in(self):
        uprights, levels = ["a", "b", 3], ["x", ["y"]]
        self.refused(uprights, levels)
        self.assertEqual((uprights, levels), (["a", "b", 3], ["x", ["y"]]))


class Telling(unittest.TestCase):
    def setUp(self):
        self.plan = Plan(["west", "mid", "east"], ["south", "north", "hill", "top"])

    def test_lines(self):
        uprights = ("west", "mid", "east")
        levels = ("south", "north", "hill", "top")
        self.assertEqual(self.plan.uprights(), uprights)
        self.assertEqual(self.plan.levels(), levels)
        self.assertEqual(self.plan.lines(0), uprights)
        self.assertEqual(self.plan.lines(1), levels)
        self.assertEqual(self.plan.lines(family=0), uprights)
        self.assertEqual(self.plan.lines(family=1), levels)

    def test_lines_are_not_sorted(self):
        plan = Plan(["b", "a"], ["d", "c"])
        self.assertEqual((plan.lines(0), plan.lines(1)), (("b", "a"), ("d", "c")))

    def test_family(self):
        for line in ("west", "mid", "east"):
            self.assertEqual(repr(self.plan.family(line)), "0")
            self.assertEqual(repr(self.plan.family(line=line)), "0")
        for line in ("south", "north", "hill", "top"):
            self.assertEqual(repr(self.plan.family(line)), "1")

    def test_family_of_no_line(self):
        lists = [["west"], ("west",), {"west": "west"}, ("west", "mid", "east")]
        for thing in [*anything(), *lists, "wes", "westt", "West", "est", self.plan]:
            with self.subTest(thing=thing):
                with self.assertRaises(LotError) as caught:
                    self.plan.family(thing)
                self.assertIs(type(caught.exception), NoLine)
                self.assertIs(caught.exception.line, thing)

    def test_family_refused_changes_nothing(self):
        thing = ["west"]
        with self.assertRaises(NoLine):
            self.plan.family(thing)
        self.assertEqual(thing, ["west"])
        self.assertEqual(self.plan, Plan(["west", "mid", "east"], ["south", "north", "hill", "top"]))

    def test_cells_rise(self):
        self.assertEqual(self.plan.cells(), ((0, 0), (0, 1), (0, 2), (1, 0), (1, 1), (1, 2)))
        self.assertEqual(len(self.plan), 6)

    def test_cells_of_the_least_and_the_greatest(self):
        least = Plan(["a", "b"], ["c", "d"])
        self.assertEqual((least.cells(), len(least)), (((0, 0),), 1))
        greatest = Plan(EIGHT, OTHER_EIGHT)
        self.assertEqual(greatest.cells(), tuple([(i, j) for i in range(7) for j in range(7)]))
        self.assertEqual(len(greatest), 49)
        self.assertEqual(len(Plan(EIGHT, ["x", "y"])), 7)

    def test_kinds_of_what_is_told(self):
        told = [self.plan.uprights(), self.plan.levels(), self.plan.lines(0), self.plan.lines(1), self.plan.cells()]
        for thing in told:
            self.assertIs(type(thing), tuple)
        for cell in self.plan.cells():
            self.assertIs(type(cell), tuple)

    def test_equal_to_a_plan_of_the_same_lists(self):
        same = Plan(("west", "mid", "east"), ("south", "north", "hill", "top"))
        self.assertTrue(self.plan == same)
        self.assertFalse(self.plan != same)
        self.assertTrue(self.plan == self.plan)

    def test_equal_to_no_other_plan(self):
        uprights, levels = ["a", "b"], ["c", "d"]
        plan = Plan(uprights, levels)
        others = [
            Plan(levels, uprights), Plan(["b", "a"], levels), Plan(uprights, ["d", "c"]),
            Plan(["a", "b", "e"], levels), Plan(uprights, ["c", "d", "e"]), Plan(["a", "e"], levels),
        ]
        for other in others:
            self.assertFalse(plan == other)
            self.assertTrue(plan != other)

    def test_equal_to_nothing_that_is_no_plan(self):
        plan = Plan(["a", "b"], ["c", "d"])
        pair = (("a", "b"), ("c", "d"))
        for thing in [*anything(), pair, list(pair), plan.cells(), object()]:
            with self.subTest(thing=thing):
                self.assertIs(plan == thing, False)
                self.assertIs(thing == plan, False)
                self.assertIs(plan != thing, True)


if __name__ == "__main__":
    unittest.main()
