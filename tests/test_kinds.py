"""What the files of the package ask of things of any kind: numbers as point [3] tells them, and their texts."""

import unittest

from lothouse.kinds import is_letters, is_number, is_rising, is_whole, is_within, read_number, read_whole
from tests.things import anything


class Kinds(unittest.TestCase):
    def test_whole_numbers_are_no_truths(self):
        for thing in anything():
            whole = isinstance(thing, int) and thing is not True and thing is not False
            with self.subTest(thing=thing):
                self.assertIs(is_whole(thing), whole)
                self.assertIs(is_number(thing), whole and abs(thing) <= 10 ** 9)
                self.assertIs(is_within(thing, 0, 1), whole and thing in (0, 1))

    def test_the_ends_of_numbers(self):
        for k in (10 ** 9, -10 ** 9):
            self.assertIs(is_number(k), True)
            self.assertIs(is_number(k + k // abs(k)), False)
        self.assertEqual([k for k in range(-5, 9) if is_within(k, -2, 3)], [-2, -1, 0, 1, 2, 3])

    def test_letters(self):
        for text, told in [("a", True), ("az", True), ("abc", True), ("abcd", False), ("", False), ("A", False), ("a b", False)]:
            self.assertIs(is_letters(text, 3), told)
        for thing in (None, 1, True, ["a"], ("a",), {"a": 1}):
            self.assertIs(is_letters(thing, 3), False)

    def test_rising(self):
        for things, told in [((), True), ((1,), True), ((1, 2, 5), True), ((1, 1), False), ((1, 3, 2), False)]:
            self.assertIs(is_rising(things), told)
            self.assertIs(is_rising(list(things)), told)

    def test_whole_numbers_are_read_without_needless_noughts(self):
        for k in [*range(120), 10 ** 30, 10 ** 39]:
            self.assertEqual(read_whole(str(k)), k)
        for text in ["", "00", "01", "007", "-1", "-0", "+1", " 1", "1 ", "1_0", "1.0", "a", "1a", "\n", "1\n", "~"]:
            self.assertIsNone(read_whole(text))
        for sign in [chr(k) for k in range(32, 127) if chr(k) not in "0123456789"]:
            self.assertIsNone(read_whole("1" + sign))
            self.assertIsNone(read_whole(sign + "1"))
            self.assertIsNone(read_number("1" + sign))

    def test_numbers_below_nought_are_read_too(self):
        for k in [*range(-120, 120), 10 ** 39, -10 ** 39]:
            self.assertEqual(read_number(str(k)), k)
        for text in ["", "-", "--1", "-0", "-00", "-01", "+1", "- 1", " -1", "-1 ", "1-", "-a", "-1.0", "00", "01", "+-1", "-+1"]:
            self.assertIsNone(read_number(text))


if __name__ == "__main__":
    unittest.main()
