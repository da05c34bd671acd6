"""Point [50]: fractions and holdings; and point [3] as far as it speaks of these."""

import math
import unittest
from fractions import Fraction

from lothouse.errors import LotError, NoShare
from lothouse.shares import held, is_fraction, is_holding, passed, sole
from tests.things import anything, nested

THIRDS = (("ann", (1, 3)), ("bob", (2, 3)))
TWELVE = tuple([(name, (1, 12)) for name in "abcdefghijkl"])


class Fractions(unittest.TestCase):
    def test_each_small_pair(self):
        for n in range(-2, 14):
            for d in range(-2, 14):
                told = 1 <= n <= d and math.gcd(n, d) == 1
                self.assertIs(is_fraction((n, d)), told, (n, d))

    def test_great_ones(self):
        self.assertIs(is_fraction((10 ** 39 - 1, 10 ** 39)), True)
        self.assertIs(is_fraction((1, 10 ** 39)), True)
        self.assertIs(is_fraction((10 ** 39, 10 ** 39 - 1)), False)
        self.assertIs(is_fraction((10 ** 38, 10 ** 39)), False)

    def test_no_fractions(self):
        for thing in [[1, 3], (True, 3), (1, True), (True, True), ("1", "3"), (1,), (1, 3, 1), (), "1/3", (1, None), 1,
                      {1: 3}, ((1, 3),), (0, 1), (0, 0), (2, 4), (5, 3), (-1, 3), (-1, -3), (1, -3)]:
            with self.subTest(thing=thing):
                self.assertIs(is_fraction(thing), False)

    def test_anything(self):
        for thing in anything():
            with self.subTest(thing=thing):
                self.assertIs(is_fraction(thing), thing == (1, 2))
                self.assertIs(is_fraction((thing, 10 ** 9 + 7)), type(thing) is int and 1 <= thing <= 10 ** 9)
                self.assertIs(is_fraction((1, thing)), type(thing) is int and thing >= 1)

    def test_by_name(self):
        self.assertIs(is_fraction(thing=(1, 3)), True)


class Holdings(unittest.TestCase):
    def test_holdings(self):
        for holding in [THIRDS, TWELVE, (("ann", (1, 1)),), (("a", (1, 2)), ("b", (1, 3)), ("c", (1, 6))),
                        (("a", (10 ** 30 - 1, 10 ** 30)), ("b", (1, 10 ** 30)))]:
            with self.subTest(holding=holding):
                self.assertIs(is_holding(holding), True)

    def test_no_holdings(self):
        thirteen = tuple([(name, (1, 13)) for name in "abcdefghijklm"])
        for why, thing in {
            "less than one whole": (("ann", (1, 3)), ("bob", (1, 3))),
            "more than one whole": (("ann", (2, 3)), ("bob", (2, 3))),
            "less, of one": (("ann", (1, 2)),),
            "none": (),
            "thirteen": thirteen,
            "another order": (THIRDS[1], THIRDS[0]),
            "a name twice": (("ann", (1, 2)), ("ann", (1, 2))),
            "not in lowest terms": (("ann", (2, 4)), ("bob", (1, 2))),
            "nought parts": (("ann", (1, 1)), ("bob", (0, 1))),
            "below nought": (("ann", (-1, 3)), ("bob", (4, 3))),
            "a list": list(THIRDS),
            "a list within": (list(THIRDS[0]), THIRDS[1]),
            "a fraction a list": (("ann", [1, 3]), THIRDS[1]),
            "no name": (("Ann", (1, 3)), THIRDS[1]),
            "a number for a name": ((1, (1, 1)),),
            "truths": (("ann", (True, True)),),
            "three parts": (("ann", (1, 1), 1),),
            "one part": (("ann",),),
            "a dict": {"ann": (1, 1)},
            "flat": ("ann", (1, 1)),
            "a text": "ann",
        }.items():
            with self.subTest(why):
                self.assertIs(is_holding(thing), False)

    def test_anything(self):
        for thing in anything():
            with self.subTest(thing=thing):
                self.assertIs(is_holding(thing), False)
                self.assertIs(is_holding((thing,)), False)
                self.assertIs(is_holding((("ann", (1, 2)), thing)), False)
                self.assertIs(is_holding(((thing, (1, 1)),)), False)
                self.assertIs(is_holding((("ann", thing), ("bob", (1, 2)))), thing == (1, 2))
                self.assertIs(is_holding((("ann", (1, thing)),)), thing == 1 and thing is not True)

    def test_what_is_handed_in_is_left(self):
        for thing in ([("ann", [1, 1])], (["ann", (1, 1)],), nested(list, 20)):
            before = repr(thing)
            is_holding(thing)
            is_fraction(thing)
            self.assertEqual(repr(thing), before)

    def test_by_name(self):
        self.assertIs(is_holding(thing=THIRDS), True)

    def test_sole(self):
        self.assertEqual(sole("ann"), (("ann", (1, 1)),))
        self.assertEqual(sole(name="b"), (("b", (1, 1)),))
        self.assertIs(is_holding(sole("ann")), True)

    def test_held(self):
        self.assertEqual(held(THIRDS, "ann"), (1, 3))
        self.assertEqual(held(THIRDS, "bob"), (2, 3))
        self.assertIsNone(held(THIRDS, "carl"))
        self.assertIsNone(held(THIRDS, "an"))
        self.assertEqual(held(sole("ann"), "ann"), (1, 1))
        self.assertEqual(held(name="bob", holding=THIRDS), (2, 3))
        for thing in anything():
            self.assertIsNone(held(THIRDS, thing))


class Passed(unittest.TestCase):
    def test_to_one_who_has_none(self):
        self.assertEqual(passed(sole("bob"), "bob", "ann", (1, 3)), THIRDS)
        self.assertEqual(passed(THIRDS, "bob", "carl", (1, 2)), (("ann", (1, 3)), ("bob", (1, 6)), ("carl", (1, 2))))
        self.assertEqual(passed(THIRDS, "bob", "aa", (1, 2)), (("aa", (1, 2)), ("ann", (1, 3)), ("bob", (1, 6))))

    def test_to_one_who_has_some(self):
        self.assertEqual(passed(THIRDS, "bob", "ann", (1, 6)), (("ann", (1, 2)), ("bob", (1, 2))))
        self.assertEqual(passed(THIRDS, "ann", "bob", (1, 4)), (("ann", (1, 12)), ("bob", (11, 12))))

    def test_all_that_the_giver_has(self):
        self.assertEqual(passed(THIRDS, "ann", "bob", (1, 3)), sole("bob"))
        self.assertEqual(passed(THIRDS, "ann", "carl", (1, 3)), (("bob", (2, 3)), ("carl", (1, 3))))
        self.assertEqual(passed(sole("ann"), "ann", "bob", (1, 1)), sole("bob"))

    def test_a_part_is_of_the_whole(self):
        self.assertEqual(held(passed(THIRDS, "bob", "carl", (1, 3)), "bob"), (1, 3))

    def refused(self, holding, giver, taker, part):
        self.assertRaises(NoShare, passed, holding, giver, taker, part)
        self.assertRaises(LotError, passed, holding, giver, taker, part)

    def test_not_as_much(self):
        self.refused(THIRDS, "ann", "bob", (1, 2))
        self.refused(THIRDS, "ann", "bob", (334, 1000 - 1))
        self.refused(THIRDS, "ann", "bob", (1, 1))
        self.refused(THIRDS, "carl", "bob", (1, 10 ** 9))
        self.refused(THIRDS, "carl", "dan", (1, 3))
        self.assertEqual(len(passed(THIRDS, "ann", "bob", (332, 999))), 2)

    def test_to_oneself(self):
        self.refused(THIRDS, "ann", "ann", (1, 3))
        self.refused(THIRDS, "ann", "ann", (1, 4))
        self.refused(THIRDS, "carl", "carl", (1, 4))

    def test_no_names_and_no_fractions(self):
        for thing in [*anything(), "Ann", "anns name", ["ann"], ("bob",)]:
            with self.subTest(thing=thing):
                self.refused(THIRDS, thing, "bob", (1, 3))
                self.refused(THIRDS, "ann", thing, (1, 3))
                self.refused(THIRDS, thing, thing, thing)
                if thing != (1, 2):
                    self.refused(THIRDS, "bob", "ann", thing)
        for thing in [(2, 6), (0, 1), (-1, 3), [1, 3], (True, 3), (1, 3, 1), "1/3", (3, 2)]:
            with self.subTest(thing=thing):
                self.refused(THIRDS, "bob", "ann", thing)

    def test_no_thirteenth(self):
        self.assertIs(is_holding(TWELVE), True)
        self.refused(TWELVE, "a", "m", (1, 24))
        self.assertEqual(len(passed(TWELVE, "a", "m", (1, 12))), 12)
        self.assertEqual(len(passed(TWELVE, "a", "l", (1, 24))), 12)
        self.assertEqual(len(passed(TWELVE, "a", "l", (1, 12))), 11)
        eleven = passed(TWELVE, "a", "b", (1, 12))
        self.assertEqual(len(passed(eleven, "b", "a", (1, 24))), 12)

    def test_one_whole_ever_after(self):
        names = ["ann", "bob", "carl", "dan", "eve"]
        holding = sole("carl")
        seed = 7
        done = 0
        for _ in range(600):
            seed = (seed * 1103515245 + 12345) % 2 ** 31
            giver, taker = names[seed // 64 % 5], names[seed // 1024 % 5]
            n, d = 1 + seed // 2 ** 15 % 3, 1 + seed // 2 ** 17 % 8
            part = (n // math.gcd(n, d), d // math.gcd(n, d))
            has = Fraction(*(held(holding, giver) or (0, 1)))
            had = Fraction(*(held(holding, taker) or (0, 1)))
            if giver == taker or part[0] > part[1] or Fraction(*part) > has:
                self.refused(holding, giver, taker, part)
                continue
            told = passed(holding, giver, taker, part)
            self.assertIs(is_holding(told), True)
            self.assertEqual(Fraction(*(held(told, giver) or (0, 1))), has - Fraction(*part))
            self.assertEqual(Fraction(*held(told, taker)), had + Fraction(*part))
            for name in names:
                if name not in (giver, taker):
                    self.assertEqual(held(told, name), held(holding, name))
            holding = told
            done += 1
        self.assertGreater(done, 60)

    def test_the_holding_stays(self):
        holding = (("ann", (1, 3)), ("bob", (2, 3)))
        passed(holding, "ann", "bob", (1, 3))
        self.assertEqual(holding, THIRDS)

    def test_by_names_in_any_order(self):
        told = passed(part=(1, 3), taker="ann", giver="bob", holding=sole("bob"))
        self.assertEqual(told, THIRDS)


if __name__ == "__main__":
    unittest.main()
