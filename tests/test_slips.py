"""Point [70]: slips, keys and seals; and point [3] as far as it speaks of these."""

import unittest

from lothouse.errors import LotError, NoKey, NoSlip, NoText
from lothouse.slips import are_two, body_text, is_key, is_sealed, is_slip, read_slip, sealed, slip_text
from tests.digests import Broken, broken, digest, never
from tests.test_deeds import NO_TEXTS as NO_DEED_TEXTS
from tests.test_deeds import TEXTS as DEED_TEXTS
from tests.things import anything, nested

DEED = ("grant", "east", ((0, 0), (0, 1)), "ann")
BARE = ("slip", "ann", 1, 5, DEED, ())
SLIP = ("slip", "king", 7, 60, ("close", "lane"), (("ann", 0), ("bob", 10 ** 30)))
FOURTEEN = tuple([(name, k) for k, name in enumerate("abcdefghijklmn")])
FULL = ("slip", "ann", 99, 1, DEED, FOURTEEN)

TEXTS = {
    "ann 1 5 grant east 0.0 0.1 ann": BARE,
    "king 7 60 close lane ann=0 bob=" + "1" + 30 * "0": SLIP,
    "ann 99 1 grant east 0.0 0.1 ann " + " ".join([f"{name}={k}" for name, k in FOURTEEN]): FULL,
    "grant 1 1 give east ann bob 1/3 ann=12": ("slip", "grant", 1, 1, ("give", "east", "ann", "bob", (1, 3)), (("ann", 12),)),
}

NO_TEXTS = [
    "", " ", "ann", "ann 1", "ann 1 5", "ann 1 5 ", "ann 1 5 close", "1 5 close lane", "ann 5 close lane", "ann close lane",
    "ann 0 5 close lane", "ann 100 5 close lane", "ann -1 5 close lane", "ann 01 5 close lane", "ann +1 5 close lane",
    "ann 1 0 close lane", "ann 1 61 close lane", "ann 1 -5 close lane", "ann 1 05 close lane", "ann 1 5.0 close lane",
    "ann x 5 close lane", "ann 1 x close lane", "Ann 1 5 close lane", "annannann 1 5 close lane", "ann 1_0 5 close lane",
    " ann 1 5 close lane", "ann 1 5 close lane ", "ann  1 5 close lane", "ann 1  5 close lane", "ann 1 5  close lane",
    "ann 1 5 close lane  ann=1", "ann 1 5 close lane ann=1 ", "slip ann 1 5 close lane", "ann 1 5 slip close lane",
    "ann 1 5 close lane ann", "ann 1 5 close lane ann=", "ann 1 5 close lane =1", "ann 1 5 close lane =",
    "ann 1 5 close lane ann=01", "ann 1 5 close lane ann=-1", "ann 1 5 close lane ann=1=1", "ann 1 5 close lane ann =1",
    "ann 1 5 close lane ann= 1", "ann 1 5 close lane Ann=1", "ann 1 5 close lane ann=x", "ann 1 5 close lane ann==1",
    "ann 1 5 close lane ann=1" + 29 * "0" + "1", "ann 1 5 close lane ann=1" + 29 * "0" + "01", "ann 1 5 close lane ann=+1",
    "ann 1 5 close lane bob=1 ann=1", "ann 1 5 close lane ann=1 ann=1", "ann 1 5 close lane ann=1 ann=2",
    "ann=1 ann 1 5 close lane", "ann 1 5 ann=1 close lane", "ann 1 5 close ann=1 lane", "ann 1 ann=1 5 close lane",
    "ann 1 5 close lane ann=1\n", "ann 1 5 close lane\nann=1", "ann 1 5 close lane,ann=1", "ann 1 5 close lane ann:1",
    "ann 1 5 close lane " + " ".join([f"{name}=1" for name in "abcdefghijklmno"]), "ANN 1 5 CLOSE LANE",
    "ann=1", "a=1 b=1 c=1 d=1 e=1",
]

# What may stand in each place of a slip but is wrong there.
WRONG = {
    0: ["slips", "Slip", "", None, 0, True, ("slip",), ["slip"]],
    1: ["", "Ann", "abcdefghi", "a b", None, 1, ["ann"], ("ann",)],
    2: [0, 100, -1, True, False, "1", None, (1,), 10 ** 39],
    3: [0, 61, -1, True, False, "5", None, (5,), 10 ** 39],
    4: [(), None, list(DEED), ("close",), ("close", "Lane"), "close lane", (DEED,), ("grant", "east", ((7, 0),), "ann"),
        ("grant", "east", [(0, 0)], "ann")],
    5: [None, [], [("ann", 1)], (("ann",),), (("ann", 1, 1),), (["ann", 1],), (("ann", -1),), (("ann", 10 ** 30 + 1),),
        (("ann", True),), (("ann", "1"),), (("ann", None),), (("Ann", 1),), ((1, 1),), ("ann", 1), {"ann": 1},
        (("bob", 1), ("ann", 1)), (("ann", 1), ("ann", 1)), (("ann", 1), ("ann", 2)), (("ann", 1), None), (None,), ((),),
        (*FOURTEEN, ("o", 1)), "ann=1"],
}


class IsSlip(unittest.TestCase):
    def test_slips(self):
        for slip in TEXTS.values():
            with self.subTest(slip=slip):
                self.assertIs(is_slip(slip), True)
        for deed in DEED_TEXTS.values():
            self.assertIs(is_slip(("slip", "ann", 1, 1, deed, ())), True)

    def test_numbers_and_days(self):
        for k in range(-3, 110):
            self.assertIs(is_slip(("slip", "ann", k, 1, DEED, ())), 1 <= k <= 99)
            self.assertIs(is_slip(("slip", "ann", 1, k, DEED, ())), 1 <= k <= 60)

    def test_spoilt_at_each_place(self):
        for slip in TEXTS.values():
            for k, things in WRONG.items():
                for thing in things:
                    with self.subTest(k=k, thing=thing):
                        self.assertIs(is_slip((*slip[:k], thing, *slip[k + 1:])), False)

    def test_parts_left_out_or_more(self):
        for slip in TEXTS.values():
            self.assertIs(is_slip(slip[:-1]), False)
            self.assertIs(is_slip(slip[1:]), False)
            self.assertIs(is_slip((*slip, ())), False)
            self.assertIs(is_slip(list(slip)), False)
            self.assertIs(is_slip((slip,)), False)

    def test_anything(self):
        for thing in anything():
            with self.subTest(thing=thing):
                self.assertIs(is_slip(thing), False)
                whole = isinstance(thing, int) and not isinstance(thing, bool)
                for k in range(6):
                    fits = k in (2, 3) and whole and 1 <= thing <= 60 or k == 5 and thing == ()
                    self.assertIs(is_slip((*BARE[:k], thing, *BARE[k + 1:])), fits)
                marked = ("slip", "ann", 1, 5, DEED, (("bob", thing),))
                self.assertIs(is_slip(marked), whole and 0 <= thing <= 10 ** 30)
                self.assertIs(is_slip(("slip", "ann", 1, 5, DEED, ((thing, 1),))), False)
                self.assertIs(is_slip(("slip", "ann", 1, 5, DEED, (thing,))), False)

    def test_by_name(self):
        self.assertIs(is_slip(thing=SLIP), True)

    def test_what_is_handed_in_is_left(self):
        for thing in (["slip"], ("slip", "ann", 1, 5, list(DEED), []), nested(list, 20)):
            before = repr(thing)
            is_slip(thing)
            are_two(thing, thing)
            self.assertEqual(repr(thing), before)


class IsKey(unittest.TestCase):
    def test_keys(self):
        for key in ["a", "z", "key", "abcdefghijklmnopqrst", "zzzzzzzzzzzzzzzzzzzz"]:
            self.assertIs(is_key(key), True)

    def test_no_keys(self):
        for thing in ["", "abcdefghijklmnopqrstu", "Key", "a b", "key ", "k1", "k-y", "\n", ["key"], ("key",), b"key"]:
            with self.subTest(thing=thing):
                self.assertIs(is_key(thing), False)

    def test_anything(self):
        for thing in anything():
            with self.subTest(thing=thing):
                self.assertIs(is_key(thing), thing == "abcdefghi")

    def test_by_name(self):
        self.assertIs(is_key(thing="key"), True)


class Texts(unittest.TestCase):
    def test_texts_and_back(self):
        for text, slip in TEXTS.items():
            with self.subTest(text=text):
                self.assertEqual(slip_text(slip), text)
                self.assertEqual(read_slip(text), slip)
                self.assertIs(is_slip(read_slip(text)), True)

    def test_of_each_deed(self):
        for text, deed in DEED_TEXTS.items():
            for seals, behind in [((), ""), ((("bob", 0),), " bob=0"), ((("ann", 5), ("bob", 31)), " ann=5 bob=31")]:
                slip = ("slip", "dan", 12, 34, deed, seals)
                self.assertEqual(slip_text(slip), "dan 12 34 " + text + behind)
                self.assertEqual(body_text(slip), "dan 12 34 " + text)
                self.assertEqual(read_slip("dan 12 34 " + text + behind), slip)

    def test_bodies(self):
        self.assertEqual(body_text(BARE), "ann 1 5 grant east 0.0 0.1 ann")
        self.assertEqual(body_text(SLIP), "king 7 60 close lane")
        self.assertEqual(body_text(slip=FULL), "ann 99 1 grant east 0.0 0.1 ann")

    def test_no_slip_has_no_text(self):
        spoilt = [(*SLIP[:k], thing, *SLIP[k + 1:]) for k, things in WRONG.items() for thing in things]
        for thing in [*anything(), *TEXTS, list(SLIP), *spoilt]:
            with self.subTest(thing=thing):
                self.assertRaises(NoSlip, body_text, thing)
                self.assertRaises(NoSlip, slip_text, thing)
                self.assertRaises(LotError, slip_text, thing)

    def no_text(self, thing):
        with self.assertRaises(NoText) as caught:
            read_slip(thing)
        self.assertEqual(caught.exception.row, 0)

    def test_no_texts(self):
        for text in [*NO_TEXTS, *DEED_TEXTS]:
            with self.subTest(text=text):
                self.no_text(text)

    def test_no_texts_of_deeds(self):
        for text in NO_DEED_TEXTS:
            with self.subTest(text=text):
                self.no_text("ann 1 5 " + text)
                self.no_text("ann 1 5 " + text + " ann=1")

    def test_anything_is_no_text(self):
        for thing in [*anything(), *TEXTS.values(), list(TEXTS)]:
            with self.subTest(thing=thing):
                self.no_text(thing)

    def test_spoilt_at_any_place(self):
        for text in TEXTS:
            for k in range(len(text) + 1):
                spoilt = [text[:k] + sign + text[k:] for sign in " \n0A-=./~"]
                spoilt += [text[:k] + text[k + 1:], text[:k]]
                spoilt += [text[:k] + sign + text[k + 1:] for sign in " 0A=~"]
                for other in spoilt:
                    self.read_to_what_was_written(other)

    def read_to_what_was_written(self, text):
        """A text is either refused or tells a slip whose text it is."""
        try:
            slip = read_slip(text)
        except NoText as e:
            self.assertEqual(e.row, 0)
        else:
            self.assertIs(is_slip(slip), True)
            self.assertEqual(slip_text(slip), text)

    def test_by_names(self):
        self.assertEqual(read_slip(text=slip_text(slip=SLIP)), SLIP)


class Seals(unittest.TestCase):
    def test_the_mark(self):
        mark = digest("key ann 1 5 grant east 0.0 0.1 ann")
        told = sealed(BARE, "bob", "key", digest)
        self.assertEqual(told, ("slip", "ann", 1, 5, DEED, (("bob", mark),)))
        self.assertIs(is_slip(told), True)
        self.assertEqual(BARE[5], ())

    def test_a_digest_is_asked_for_the_body_alone(self):
        asked = []

        def asking(text):
            asked.append(text)
            return 5

        told = sealed(SLIP, "carl", "keyofcarl", asking)
        self.assertEqual(told[5], (("ann", 0), ("bob", 10 ** 30), ("carl", 5)))
        self.assertEqual(set(asked), {"keyofcarl king 7 60 close lane"})
        self.assertIs(is_sealed(told, "carl", "keyofcarl", asking), True)
        self.assertEqual(set(asked), {"keyofcarl king 7 60 close lane"})

    def test_names_rise(self):
        slip = BARE
        for name in ["mm", "zz", "a", "m", "nn"]:
            slip = sealed(slip, name, "key", digest)
        self.assertEqual([name for name, _ in slip[5]], ["a", "m", "mm", "nn", "zz"])

    def test_in_an_elder_ones_place(self):
        slip = sealed(sealed(BARE, "ann", "keya", digest), "bob", "keyb", digest)
        again = sealed(slip, "ann", "keyx", digest)
        self.assertEqual([name for name, _ in again[5]], ["ann", "bob"])
        self.assertIs(is_sealed(slip, "ann", "keya", digest), True)
        self.assertIs(is_sealed(again, "ann", "keya", digest), False)
        self.assertIs(is_sealed(again, "ann", "keyx", digest), True)
        self.assertEqual(again[5][1], slip[5][1])
        self.assertEqual(sealed(again, "ann", "keya", digest), slip)

    def test_no_fifteenth(self):
        self.assertEqual(len(sealed(FULL, "n", "key", digest)[5]), 14)
        for name in ("o", "aa", "zz"):
            self.assertRaises(NoSlip, sealed, FULL, name, "key", digest)
        thirteen = (*FULL[:5], FOURTEEN[1:])
        self.assertEqual([name for name, _ in sealed(thirteen, "zz", "key", digest)[5]], [*"bcdefghijklmn", "zz"])

    def test_refusals_in_their_order(self):
        for thing in [*anything(), list(BARE)]:
            with self.subTest(thing=thing):
                self.assertRaises(NoSlip, sealed, thing, "ann", "key", digest)
                self.assertRaises(NoSlip, sealed, thing, None, None, never)
                self.assertRaises(NoKey, sealed, BARE, thing, "key", never)
                self.assertRaises(NoKey, sealed, FULL, thing, "key", never)
                if thing != "abcdefghi":
                    self.assertRaises(NoKey, sealed, BARE, "ann", thing, never)
                    self.assertRaises(NoKey, sealed, FULL, "zz", thing, never)
        self.assertRaises(NoKey, sealed, BARE, "abcdefghi", "key", never)
        self.assertRaises(NoKey, sealed, BARE, "ann", "abcdefghijklmnopqrstu", never)
        self.assertRaises(NoSlip, sealed, FULL, "zz", "key", never)

    def test_is_sealed(self):
        slip = sealed(BARE, "ann", "key", digest)
        mark = slip[5][0][1]
        self.assertIs(is_sealed(slip, "ann", "key", digest), True)
        self.assertIs(is_sealed(slip, "ann", "kex", digest), False)
        self.assertIs(is_sealed(slip, "bob", "key", digest), False)
        self.assertIs(is_sealed(BARE, "ann", "key", digest), False)
        self.assertIs(is_sealed((*BARE[:5], (("ann", mark + 1),)), "ann", "key", digest), False)
        self.assertIs(is_sealed((*BARE[:5], (("bob", mark),)), "ann", "key", digest), False)
        self.assertIs(is_sealed((*BARE[:5], (("ann", 1), ("bob", mark))), "ann", "key", digest), False)
        self.assertIs(is_sealed((*BARE[:5], (("ann", 1), ("bob", mark))), "bob", "key", digest), True)

    def test_a_seal_is_of_one_body(self):
        _, hand, number, day, deed, seals = sealed(BARE, "ann", "key", digest)
        for other in [("slip", "bob", number, day, deed, seals), ("slip", hand, 2, day, deed, seals),
                      ("slip", hand, number, 6, deed, seals), ("slip", hand, number, day, ("close", "lane"), seals)]:
            self.assertIs(is_sealed(other, "ann", "key", digest), False)

    def test_is_sealed_of_anything(self):
        slip = sealed(BARE, "ann", "key", digest)
        for thing in [*anything(), list(slip), ["ann"], ("key",)]:
            with self.subTest(thing=thing):
                self.assertIs(is_sealed(thing, "ann", "key", digest), False)
                self.assertIs(is_sealed(slip, thing, "key", digest), False)
                self.assertIs(is_sealed(slip, "ann", thing, digest), False)
                self.assertIs(is_sealed(thing, thing, thing, digest), False)

    def test_by_what_is_no_key_nothing_is_sealed(self):
        for thing in ["Key", "", "abcdefghijklmnopqrstu", "a b", None, 1]:
            mark = digest(f"{thing} ann 1 5 grant east 0.0 0.1 ann")
            with self.subTest(thing=thing):
                self.assertIs(is_sealed((*BARE[:5], (("ann", mark),)), "ann", thing, digest), False)
        mark = digest("key ann 1 5 grant east 0.0 0.1 ann")
        self.assertIs(is_sealed((*BARE[:5], (("ann", mark),)), "ann", "key", digest), True)

    def test_a_digest_that_raises(self):
        slip = sealed(BARE, "ann", "key", digest)
        self.assertRaises(Broken, sealed, slip, "ann", "key", broken)
        self.assertRaises(Broken, is_sealed, slip, "ann", "key", broken)
        self.assertIs(is_sealed(slip, "ann", "key", digest), True)

    def test_by_names_in_any_order(self):
        slip = sealed(digest=digest, key="key", name="ann", slip=BARE)
        self.assertEqual(slip, sealed(BARE, "ann", "key", digest))
        self.assertIs(is_sealed(digest=digest, key="key", name="ann", slip=slip), True)


class AreTwo(unittest.TestCase):
    def test_unlike_bodies(self):
        self.assertIs(are_two(BARE, ("slip", "ann", 1, 6, DEED, ())), True)
        self.assertIs(are_two(BARE, ("slip", "ann", 1, 5, ("close", "lane"), ())), True)
        self.assertIs(are_two(("slip", "ann", 1, 6, DEED, FOURTEEN), BARE), True)

    def test_of_one_body(self):
        self.assertIs(are_two(BARE, BARE), False)
        self.assertIs(are_two(BARE, ("slip", "ann", 1, 5, DEED, FOURTEEN)), False)
        self.assertIs(are_two(("slip", "ann", 1, 5, DEED, (("a", 1),)), ("slip", "ann", 1, 5, DEED, (("a", 2),))), False)

    def test_of_another_hand_or_number(self):
        self.assertIs(are_two(BARE, ("slip", "bob", 1, 6, DEED, ())), False)
        self.assertIs(are_two(BARE, ("slip", "ann", 2, 6, DEED, ())), False)

    def test_anything(self):
        for thing in [*anything(), list(BARE), ("slip", "ann", 1, 61, DEED, ()), ("slip", "ann", True, 6, DEED, ()),
                      ("slip", "ann", 1, 6, list(DEED), ()), ("slip", "ann", 1, 6, DEED)]:
            with self.subTest(thing=thing):
                self.assertIs(are_two(thing, BARE), False)
                self.assertIs(are_two(BARE, thing), False)
                self.assertIs(are_two(thing, thing), False)

    def test_by_names_in_any_order(self):
        self.assertIs(are_two(other=("slip", "ann", 1, 6, DEED, ()), one=BARE), True)


if __name__ == "__main__":
    unittest.main()
