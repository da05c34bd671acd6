"""Point [60]: deeds and their texts; and point [3] as far as it speaks of these."""

import unittest

from lothouse.deeds import deed_text, is_deed, read_deed
from lothouse.errors import LotError, NoDeed, NoText
from lothouse.shares import is_fraction
from tests.things import anything, nested

WHOLE = tuple([(i, j) for i in range(7) for j in range(7)])

TEXTS = {
    "grant east 0.0 0.1 ann": ("grant", "east", ((0, 0), (0, 1)), "ann"),
    "grant a 6.6 b": ("grant", "a", ((6, 6),), "b"),
    "grant grant 0.6 3.3 6.0 grant": ("grant", "grant", ((0, 6), (3, 3), (6, 0)), "grant"),
    "give east ann bob 1/3": ("give", "east", "ann", "bob", (1, 3)),
    "give east ann ann 1/1": ("give", "east", "ann", "ann", (1, 1)),
    "give east ann bob 999999/1000000": ("give", "east", "ann", "bob", (999999, 1000000)),
    "split east west 0.1": ("split", "east", "west", ((0, 1),)),
    "split east east 0.1 5.2": ("split", "east", "east", ((0, 1), (5, 2))),
    "join east west": ("join", "east", "west"),
    "join east east": ("join", "east", "east"),
    "burden east rent carl": ("burden", "east", "rent", "carl"),
    "free east rent": ("free", "east", "rent"),
    "way lane 0.0 0.1 0.2": ("way", "lane", ((0, 0), (0, 1), (0, 2))),
    "close lane": ("close", "lane"),
    "close abcdefgh": ("close", "abcdefgh"),
}

NO_CELLS = [
    (), ((7, 0),), ((0, 7),), ((-1, 0),), ((0, -1),), ((0, 0), (0, 0)), ((0, 1), (0, 0)), ((1, 0), (0, 1)), [(0, 0)],
    ([0, 0],), ((True, 0),), ((0, False),), ((0, 0, 0),), ((0,),), (0, 0), ((0, None),), (("0", "0"),), {(0, 0): True},
]
NO_FRACTIONS = [(2, 4), (0, 1), (3, 2), (-1, 3), (1, 0), [1, 3], (True, 2), (1, True), (1,), (1, 3, 5), "1/3", 1]

NO_TEXTS = [
    "", " ", "grant", "grant ", "grant east", "grant east ann", "grant east 0.0", "grant 0.0 ann", "east 0.0 ann",
    " grant east 0.0 ann", "grant east 0.0 ann ", "grant  east 0.0 ann", "grant east  0.0 ann", "grant east 0.0  ann",
    "Grant east 0.0 ann", "grant East 0.0 ann", "grant east 0.0 Ann", "GRANT EAST 0.0 ANN",
    "grant east 00.0 ann", "grant east 0.00 ann", "grant east 01.1 ann", "grant east 0.01 ann", "grant east 0.-0 ann",
    "grant east -0.0 ann", "grant east +0.0 ann", "grant east 7.0 ann", "grant east 0.7 ann", "grant east 0,0 ann",
    "grant east 0.0.0 ann", "grant east 0. ann", "grant east .0 ann", "grant east . ann", "grant east 0 ann",
    "grant east 0.0 0.0 ann", "grant east 0.1 0.0 ann", "grant east 0.0 ann 0.1", "grant east 0.0 ann bob",
    "grant east 0.0\nann", "grant east 0.0 ann\n", "grant east 0.0 annannann", "grant east (0,0) ann",
    "grant\teast 0.0 ann", "grant east 0.0 an1", "grant east 0_0.0 ann",
    "give east ann bob", "give east ann bob 1", "give east ann bob 1/", "give east ann bob /3", "give east ann bob 01/3",
    "give east ann bob 1/03", "give east ann bob 2/6", "give east ann bob 0/1", "give east ann bob 3/2",
    "give east ann bob -1/3", "give east ann bob 1/3/1", "give east ann bob 1 / 3", "give east ann bob 1/3 ",
    "give east ann 1/3", "give east ann bob carl 1/3", "give east ann bob 1/3 1/3", "give east ann bob 1.3",
    "give east ann bob +1/3", "give east ann bob 1/1_0",
    "split east west", "split east 0.1", "split east west 0.1 north", "split east west north 0.1",
    "join east", "join", "join east west north", "join east 0.0", "join east west ",
    "burden east rent", "burden east rent carl carl", "burden east rent 1/3",
    "free east", "free east rent carl", "free east rent ", "way lane", "way", "way 0.0", "way lane lane 0.0", "way lane 0.0 x",
    "close", "close ", "close lane lane", "close lane 0.0", "close Lane", "close lane.", "open lane", "shut", "lane close",
    "0.0", "1/3", "-", "*", "none", "grant east 0.0 ann\ngrant west 0.1 ann",
]


class IsDeed(unittest.TestCase):
    def test_each_kind(self):
        for deed in TEXTS.values():
            with self.subTest(deed=deed):
                self.assertIs(is_deed(deed), True)
        self.assertIs(is_deed(("grant", "east", WHOLE, "ann")), True)
        self.assertIs(is_deed(("give", "east", "ann", "bob", (1, 10 ** 39))), True)

    def test_spoilt_by_the_kind_of_each_place(self):
        for deed in TEXTS.values():
            for k, part in enumerate(deed):
                if k == 0:
                    wrong = ["Grant", "grants", "", "open", "sell", "grant ", "ann"]
                elif isinstance(part, str):
                    wrong = ["", "Ann", "abcdefghi", "a b", "a1", ["a"], ("a",)]
                elif is_fraction(part):
                    wrong = NO_FRACTIONS
                else:
                    wrong = NO_CELLS
                for thing in wrong:
                    with self.subTest(deed=deed, k=k, thing=thing):
                        self.assertIs(is_deed((*deed[:k], thing, *deed[k + 1:])), False)

    def test_words_left_out_or_more(self):
        for deed in TEXTS.values():
            with self.subTest(deed=deed):
                self.assertIs(is_deed(deed[:-1]), False)
                self.assertIs(is_deed(deed[1:]), False)
                self.assertIs(is_deed((*deed, "ann")), False)
                self.assertIs(is_deed((*deed, ())), False)
                self.assertIs(is_deed((*deed, None)), False)

    def test_of_another_kind(self):
        for deed in TEXTS.values():
            with self.subTest(deed=deed):
                self.assertIs(is_deed(list(deed)), False)
                self.assertIs(is_deed((deed,)), False)
                self.assertIs(is_deed(dict.fromkeys(deed)), False)
                for word in ("grant", "give", "split", "join", "burden", "free", "way", "close"):
                    kinds = [self.kinds(other) for other in TEXTS.values() if other[0] == word]
                    self.assertIs(is_deed((word, *deed[1:])), self.kinds(deed) in kinds)

    def kinds(self, deed):
        """Whether each part of a deed is a name, a fraction or a region."""
        return ["name" if isinstance(part, str) else is_fraction(part) for part in deed[1:]]

    def test_anything(self):
        for thing in anything():
            with self.subTest(thing=thing):
                self.assertIs(is_deed(thing), False)
                self.assertIs(is_deed((thing,)), False)
                self.assertIs(is_deed((thing, "lane")), False)
                self.assertIs(is_deed(("close", thing)), False)
                self.assertIs(is_deed(("grant", "east", thing, "ann")), thing == ((0, 0),))
                self.assertIs(is_deed(("give", "east", "ann", "bob", thing)), thing == (1, 2))
                self.assertIs(is_deed(("join", "east", "west", thing)), False)

    def test_by_name(self):
        self.assertIs(is_deed(thing=("close", "lane")), True)

    def test_what_is_handed_in_is_left(self):
        for thing in (["grant", [1]], ("grant", "east", [(0, 0)], "ann"), nested(list, 20)):
            before = repr(thing)
            is_deed(thing)
            self.assertEqual(repr(thing), before)


class Texts(unittest.TestCase):
    def test_texts_and_back(self):
        for text, deed in TEXTS.items():
            with self.subTest(text=text):
                self.assertEqual(deed_text(deed), text)
                self.assertEqual(read_deed(text), deed)

    def test_all_cells(self):
        text = deed_text(("way", "lane", WHOLE))
        self.assertEqual(len(text.split(" ")), 51)
        self.assertEqual(read_deed(text), ("way", "lane", WHOLE))

    def test_what_is_read_is_a_deed_to_the_last_tuple(self):
        deed = read_deed("grant east 0.0 0.1 ann")
        self.assertIs(is_deed(deed), True)
        self.assertIs(type(deed), tuple)
        self.assertIs(is_deed(read_deed("give east ann bob 1/3")), True)

    def test_no_deed_has_no_text(self):
        for thing in [*anything(), *TEXTS, ["close", "lane"], ("close", "Lane"), ("grant", "east", [(0, 0)], "ann")]:
            with self.subTest(thing=thing):
                self.assertRaises(NoDeed, deed_text, thing)
                self.assertRaises(LotError, deed_text, thing)

    def no_text(self, thing):
        with self.assertRaises(NoText) as caught:
            read_deed(thing)
        self.assertEqual(caught.exception.row, 0)
        self.assertIs(type(caught.exception.row), int)

    def test_no_texts(self):
        for text in NO_TEXTS:
            with self.subTest(text=text):
                self.no_text(text)

    def test_anything_is_no_text(self):
        for thing in [*anything(), *TEXTS.values(), list(TEXTS), ["close lane"]]:
            with self.subTest(thing=thing):
                self.no_text(thing)

    def test_spoilt_at_any_place(self):
        for text in TEXTS:
            for k in range(len(text) + 1):
                spoilt = [text[:k] + sign + text[k:] for sign in " \n0A-./=~"]
                spoilt += [text[:k] + text[k + 1:], text[:k]]
                spoilt += [text[:k] + sign + text[k + 1:] for sign in " 0A~"]
                for other in spoilt:
                    if other != text:
                        self.read_to_what_was_written(other)

    def read_to_what_was_written(self, text):
        """A text is either refused or tells a deed whose text it is."""
        try:
            deed = read_deed(text)
        except NoText as e:
            self.assertEqual(e.row, 0)
        else:
            self.assertIs(is_deed(deed), True)
            self.assertEqual(deed_text(deed), text)

    def test_by_names(self):
        self.assertEqual(deed_text(deed=("close", "lane")), "close lane")
        self.assertEqual(read_deed(text="close lane"), ("close", "lane"))


if __name__ == "__main__":
    unittest.main()
