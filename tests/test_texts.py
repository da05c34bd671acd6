"""Point [140]: texts of sights, points and plans; points [2] (i) and [3] as far as they speak of these."""

import unittest

from lothouse.errors import LotError, NoPlan, NoText
from lothouse.plans import Plan
from lothouse.texts import plan_text, point_text, read_plan, read_point, read_sight, sight_text
from tests.things import anything

MOST = 10 ** 9
SIGHTS = {
    "one other 3 7": ("one", "other", 3, 7), "a b - 0": ("a", "b", None, 0), "a b 0 -": ("a", "b", 0, None),
    "a b -3 -10": ("a", "b", -3, -10), "abcdefgh b 7 3": ("abcdefgh", "b", 7, 3),
    f"b a -{MOST} {MOST}": ("b", "a", -MOST, MOST),
}
# These are of the form, though they are no sights of any plan.
SIGHTS_BY_FORM = {
    "a a 3 7": ("a", "a", 3, 7), "a b - -": ("a", "b", None, None), f"a b {MOST + 1} 7": ("a", "b", MOST + 1, 7),
    "a b 3 -" + 39 * "9": ("a", "b", 3, -int(39 * "9")),
}
POINTS = {
    "one+3 other-4": (("one", 3), ("other", -4)), "a+0 b+0": (("a", 0), ("b", 0)), "a-1 abcdefgh+10": (("a", -1), ("abcdefgh", 10)),
    f"a+{MOST} b-{MOST}": (("a", MOST), ("b", -MOST)),
}
POINTS_BY_FORM = {"a+3 a+3": (("a", 3), ("a", 3)), "z-9 y+" + 39 * "9": (("z", -9), ("y", int(39 * "9")))}
PLANS = {
    "uprights a b c\nlevels d e\n": Plan(list("abc"), list("de")),
    "uprights levels uprights\nlevels b a\n": Plan(["levels", "uprights"], ["b", "a"]),
    "uprights " + " ".join("abcdefgh") + "\nlevels " + " ".join("ijklmnop") + "\n": Plan(list("abcdefgh"), list("ijklmnop")),
}

NO_SIGHTS = [
    "", " ", "one", "one other", "one other 3", "one other 3 7 ", " one other 3 7", "one  other 3 7", "one other  3 7",
    "one other 3  7", "one other 3 7 9", "one other 3 7\n", "one\nother 3 7", "One other 3 7", "one Other 3 7", "one2 other 3 7",
    "abcdefghi other 3 7", "one abcdefghi 3 7", " other 3 7", "one  3 7", "one other +3 7", "one other 3 +7", "one other 03 7",
    "one other 3 07", "one other -0 7", "one other 3 -0", "one other 00 7", "one other -03 7", "one other 3 -07", "one other --3 7",
    "one other 3 --", "one other - 3 7", "one other 3- 7", "one other 3 7-", "one other 3.0 7", "one other 3 7,", "one other x 7",
    "one other 3 x", "one other 1_0 7", "one other 3 None", "one,other,3,7", "3 7 one other", "one 3 other 7", "one other 3 0x7",
    "- other 3 7", "one - 3 7", "one other 3 ~", "one other \t3 7", "one other 3\t7", "one+other 3 7",
]
NO_POINTS = [
    "", " ", "one+3", "one+3 ", " one+3 other-4", "one+3 other-4 ", "one+3  other-4", "one+3 other-4 x+1", "one+3\nother-4",
    "one+3 other-4\n", "one3 other-4", "one+3 other4", "one+3 other", "one other", "one 3 other 4", "one+ other-4", "one+3 other-",
    "+3 other-4", "one+3 -4", "one+-3 other-4", "one-+3 other-4", "one--3 other-4", "one++3 other-4", "one+3 other+-4",
    "one+3 other--4", "one+3 other-+4", "one-0 other-4", "one+3 other-0", "one+00 other-4", "one+03 other-4", "one-03 other-4",
    "one+3 other-04", "one+3 other+04", "One+3 other-4", "one+3 Other-4", "one2+3 other-4", "abcdefghi+3 other-4", "3+one 4-other",
    "one+3 abcdefghi-4", "one+3.0 other-4", "one+3 other-x", "one+x other-4", "one+1_0 other-4", "one+3, other-4", "one+3,other-4",
    "one+3+3 other-4", "one+3-3 other-4", "one-3+3 other-4", "one+3 other-4-4", "one=3 other-4", "one +3 other-4", "one+ 3 other-4",
    "one+3 other -4", "one+3/other-4", "-3 +4", "+ -", "one+3 other-4+", "one+3 other-4 -",
]


class Sights(unittest.TestCase):
    def test_texts(self):
        for text, sight in {**SIGHTS, **SIGHTS_BY_FORM}.items():
            with self.subTest(text=text):
                self.assertEqual(sight_text(sight), text)
                self.assertEqual(read_sight(text), sight)
                self.assertIs(type(read_sight(text)), tuple)

    def test_no_texts(self):
        for text in [*NO_SIGHTS, *anything(), SIGHTS["one other 3 7"], ["one", "other", "3", "7"], *POINTS, *PLANS]:
            with self.subTest(text=text):
                with self.assertRaises(NoText) as caught:
                    read_sight(text)
                self.assertEqual(caught.exception.row, 0)
                self.assertIsInstance(caught.exception, LotError)

    def test_spoilt_at_any_place(self):
        spoilt(self, "one other -3 17", read_sight, sight_text)
        spoilt(self, "a b - 100", read_sight, sight_text)

    def test_by_name(self):
        self.assertEqual(read_sight(text="a b 3 -"), ("a", "b", 3, None))
        self.assertEqual(sight_text(sight=("a", "b", 3, None)), "a b 3 -")


def spoilt(test, text, read, told):
    """A text with a sign more, less or changed is refused, or tells what has just that text."""
    for k in range(len(text) + 1):
        for sign in "ab10-+ _.=A/\n~":
            for other in {text[:k] + sign + text[k:], text[:k] + text[k + 1:], text[:k] + sign + text[k + 1:]}:
                with test.subTest(other=other):
                    try:
                        test.assertEqual(told(read(other)), other)
                    except NoText as e:
                        test.assertEqual(e.row, 0)


class Points(unittest.TestCase):
    def test_texts(self):
        for text, point in {**POINTS, **POINTS_BY_FORM}.items():
            with self.subTest(text=text):
                self.assertEqual(point_text(point), text)
                told = read_point(text)
                self.assertEqual(told, point)
                self.assertEqual([type(part) for part in (told, *told)], [tuple] * 3)

    def test_no_texts(self):
        for text in [*NO_POINTS, *anything(), POINTS["a+0 b+0"], ["one+3", "other-4"], *SIGHTS, *PLANS]:
            with self.subTest(text=text):
                with self.assertRaises(NoText) as caught:
                    read_point(text)
                self.assertEqual(caught.exception.row, 0)

    def test_spoilt_at_any_place(self):
        spoilt(self, "one+10 other-4", read_point, point_text)
        spoilt(self, "a+0 b-1", read_point, point_text)

    def test_by_name(self):
        self.assertEqual(read_point(text="a+3 b-1"), (("a", 3), ("b", -1)))
        self.assertEqual(point_text(point=(("a", 3), ("b", -1))), "a+3 b-1")


class Plans(unittest.TestCase):
    def test_texts(self):
        for text, plan in PLANS.items():
            with self.subTest(text=text):
                self.assertEqual(plan_text(plan), text)
                self.assertEqual(read_plan(text), plan)
                self.assertIs(type(read_plan(text)), Plan)

    def refuses(self, text, row):
        with self.subTest(text=text):
            with self.assertRaises(NoText) as caught:
                read_plan(text)
            self.assertEqual(caught.exception.row, row)
            self.assertIs(type(caught.exception.row), int)

    def test_a_row_that_is_not_so_by_form(self):
        rows = ["uprights", "uprights ", "uprights  a b", "uprights a  b", "uprights a b ", " uprights a b", "Uprights a b", "uprights A b",
                "uprights a b1", "uprights a-b", "uprights a,b", "uprights a abcdefghi", "upright a b", "uprightsa b", "levels a b", "a b",
                "", " ", "uprights -", "uprights a\tb", "uprights / a", "uprightss a b"]
        for row in rows:
            self.refuses(row + "\nlevels d e\n", 0)
            self.refuses(row + "\nlevels\n", 0)
            self.refuses(row + "\n", 0)
            self.refuses(row + "\nlevels d e\nmore\n", 0)
            other = row.replace("levels", "uprights") if "levels" in row else row.replace("upright", "level")
            self.refuses("uprights a b\n" + other + "\n", 1)
            self.refuses("uprights a b\n" + other + "\nmore\n", 1)
        self.refuses("levels d e\nuprights a b\n", 0)
        self.refuses("uprights a b\nuprights d e\n", 1)
        self.refuses("\nuprights a b\nlevels d e\n", 0)
        self.refuses("uprights a b\n\nlevels d e\n", 1)

    def test_a_row_that_is_not_ended(self):
        self.refuses("uprights a b", 0)
        self.refuses("uprights", 0)
        self.refuses("x", 0)
        self.refuses("uprights a b\nlevels d e", 1)
        self.refuses("uprights a b\nlevels", 1)
        self.refuses("uprights\nlevels d e", 0)
        self.refuses("uprights a b\nlevels d e\nmore", 2)

    def test_more_rows(self):
        for more in ["\n", "more\n", "levels d e\n", " ", "\n\n", "more\nmore\n", "x", "x\ny"]:
            self.refuses("uprights a b\nlevels d e\n" + more, 2)

    def test_rows_that_lack(self):
        self.refuses("", 0)
        self.refuses("uprights a b\n", 1)
        self.refuses("\n", 0)
        self.refuses("levels a b\n", 0)

    def test_of_no_text(self):
        for thing in [*anything(), ["uprights a b", "levels d e"], Plan(list("ab"), list("de"))]:
            if not isinstance(thing, str):
                self.refuses(thing, 0)

    def test_no_plan_behind_the_form(self):
        for text in ["uprights a\nlevels d e\n", "uprights a b\nlevels d\n", "uprights a b\nlevels a c\n", "uprights a a\nlevels d e\n",
                     "uprights a b\nlevels d d\n", "uprights " + " ".join("abcdefghi") + "\nlevels y z\n", "uprights a\nlevels a\n",
                     "uprights y z\nlevels " + " ".join("abcdefghi") + "\n"]:
            with self.subTest(text=text):
                self.assertRaises(NoPlan, read_plan, text)
        self.refuses("uprights a\nlevels D\n", 1)
        self.refuses("uprights a\nlevels d\nmore\n", 2)

    def test_spoilt_at_any_place(self):
        text = "uprights a b\nlevels d e\n"
        for k in range(len(text) + 1):
            for sign in "abx10- A\n":
                for other in {text[:k] + sign + text[k:], text[:k] + text[k + 1:], text[:k] + sign + text[k + 1:]}:
                    with self.subTest(other=other):
                        try:
                            self.assertEqual(plan_text(read_plan(other)), other)
                        except NoText as e:
                            self.assertEqual(e.row, self.first_wrong(other))
                        except NoPlan:
                            self.assertIsNone(self.first_wrong(other))

    def first_wrong(self, text):
        """The first row that isn't so by form or isn't ended, or lacks, or is one too many; None of a text by form."""
        rows = text.split("\n")
        for k, word in enumerate(["uprights", "levels"]):
            if k + 1 >= len(rows):
                return k
            names = rows[k].split(" ")[1:]
            if rows[k].split(" ")[0] != word or not names:
                return k
            if not all(name.isalpha() and name.islower() and len(name) <= 8 for name in names):
                return k
        return None if rows[2:] == [""] else 2

    def test_by_name(self):
        self.assertEqual(read_plan(text="uprights a b\nlevels d e\n"), Plan(["a", "b"], ["d", "e"]))
        self.assertEqual(plan_text(plan=Plan(["a", "b"], ["d", "e"])), "uprights a b\nlevels d e\n")


if __name__ == "__main__":
    unittest.main()
