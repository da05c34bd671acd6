"""Point [20] as far as sights.py gives it, and point [3] as far as it speaks of sights."""

import unittest

from lothouse.plans import Plan
from lothouse.sights import is_sight
from tests.things import anything, nested

PLAN = Plan(["a", "b", "c"], ["d", "e"])
FAR = 10 ** 9

SIGHTS = [
    ("a", "b", 3, 7), ("a", "c", 3, 7), ("d", "e", 3, 7),
    # The other may stand ahead of the one.
    ("b", "a", -7, -3), ("c", "a", 3, 7), ("e", "d", -1, -1),
    ("a", "b", 0, 0), ("a", "b", -1, 1), ("a", "b", 5, 5),
    # The least may be above the most.
    ("a", "b", 7, 3), ("a", "b", FAR, -FAR), ("d", "e", 1, 0),
    ("a", "b", None, 7), ("a", "b", 3, None), ("d", "e", None, 0), ("d", "e", 0, None),
    ("a", "b", -FAR, FAR), ("a", "b", FAR, None), ("a", "b", -FAR, None), ("a", "b", None, -FAR), ("a", "b", None, FAR),
]

NO_SIGHTS = {
    "both None": ("a", "b", None, None),
    "one line twice": ("a", "a", 3, 7),
    "one level twice": ("d", "d", 3, 7),
    "unlike families": ("a", "d", 3, 7),
    "unlike families, a level ahead": ("e", "b", 3, 7),
    "one is no line": ("x", "b", 3, 7),
    "other is no line": ("a", "x", 3, 7),
    "no lines": ("x", "y", 3, 7),
    "a great letter": ("A", "b", 3, 7),
    "least above the numbers": ("a", "b", FAR + 1, None),
    "least below the numbers": ("a", "b", -FAR - 1, None),
    "most above the numbers": ("a", "b", None, FAR + 1),
    "most below the numbers": ("a", "b", None, -FAR - 1),
    "least above, a most": ("a", "b", FAR + 1, 7),
    "most above, a least": ("a", "b", 3, FAR + 1),
    "of many figures": ("a", "b", -10 ** 39, 10 ** 39),
    "least a truth": ("a", "b", True, 7),
    "least no truth": ("a", "b", False, 7),
    "most a truth": ("a", "b", 0, True),
    "a truth beside None": ("a", "b", None, False),
    "least a text": ("a", "b", "3", 7),
    "most a text": ("a", "b", 3, "7"),
    "least a dash": ("a", "b", "-", 7),
    "no parts": (),
    "one part": ("a",),
    "two parts": ("a", "b"),
    "three parts": ("a", "b", 3),
    "five parts": ("a", "b", 3, 7, None),
    "eight parts": ("a", "b", 3, 7, "a", "b", 3, 7),
    "a list": ["a", "b", 3, 7],
    "a dict": {"a": 0, "b": 0, 3: 0, 7: 0},
    "a text": "ab37",
    "a sight within": (("a", "b", 3, 7),),
    "another order": (3, 7, "a", "b"),
}


class Sights(unittest.TestCase):
    def test_sights(self):
        for sight in SIGHTS:
            with self.subTest(sight=sight):
                self.assertIs(is_sight(PLAN, sight), True)

    def test_no_sights(self):
        for why, thing in NO_SIGHTS.items():
            with self.subTest(why):
                self.assertIs(is_sight(PLAN, thing), False)

    def test_each_two_lines(self):
        family = {"a": 0, "b": 0, "c": 0, "d": 1, "e": 1}
        for one in family:
            for other in family:
                akin = one != other and family[one] == family[other]
                self.assertIs(is_sight(PLAN, (one, other, 3, 7)), akin)

    def test_anything_is_no_sight(self):
        for thing in [*anything(), PLAN]:
            with self.subTest(thing=thing):
                self.assertIs(is_sight(PLAN, thing), False)

    def test_anything_at_each_place(self):
        for thing in [*anything(), PLAN]:
            whole = isinstance(thing, int) and not isinstance(thing, bool)
            fits = thing is None or whole and -FAR <= thing <= FAR
            with self.subTest(thing=thing):
                self.assertIs(is_sight(PLAN, (thing, "b", 3, 7)), False)
                self.assertIs(is_sight(PLAN, ("a", thing, 3, 7)), False)
                self.assertIs(is_sight(PLAN, (thing, thing, 3, 7)), False)
                self.assertIs(is_sight(PLAN, ("a", "b", thing, 7)), fits)
                self.assertIs(is_sight(PLAN, ("a", "b", 3, thing)), fits)

    def test_of_another_plan(self):
        self.assertIs(is_sight(Plan(["d", "e"], ["a", "b", "c"]), ("a", "b", 3, 7)), True)
        self.assertIs(is_sight(Plan(["a", "d"], ["b", "e"]), ("a", "b", 3, 7)), False)
        self.assertIs(is_sight(Plan(["x", "y"], ["z", "w"]), ("a", "b", 3, 7)), False)

    def test_of_no_plan_nothing_is_a_sight(self):
        for thing in anything():
            self.assertIs(is_sight(thing, ("a", "b", 3, 7)), False)

    def test_by_names_in_any_order(self):
        self.assertIs(is_sight(thing=("a", "b", 3, 7), plan=PLAN), True)
        self.assertIs(is_sight(thing=("a", "d", 3, 7), plan=PLAN), False)

    def test_what_is_handed_in_is_left(self):
        for thing in (["a", "b", 3, 7], (["a"], "b", 3, 7), {"a": [3]}, nested(dict, 20)):
            before = repr(thing)
            is_sight(PLAN, thing)
            self.assertEqual(repr(thing), before)
        self.assertEqual(PLAN, Plan(["a", "b", "c"], ["d", "e"]))


if __name__ == "__main__":
    unittest.main()
