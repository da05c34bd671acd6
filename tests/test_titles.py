"""Point [90]: titles, and what is regained by them; points [2] (f), (i), and [3] as far as they speak of these."""

import random
import unittest

from lothouse.books import Book
from lothouse.errors import LotError, NoDay, NoDeed, NoLot, NoSlip
from lothouse.land import Land
from lothouse.titles import regained, title
from tests.digests import Broken, broken, digest
from tests.histories import KEYS, PLAN, history, slip_of
from tests.things import anything

LEFT, RIGHT, ALL = ((0, 0), (0, 1)), ((2, 0), (2, 1)), PLAN.cells()
EAST = ("grant", "east", RIGHT, "ann")
WEST = ("grant", "west", LEFT, "ann")
MID = ("grant", "mid", ((1, 0), (1, 1)), "ann")
HALF = ("give", "east", "ann", "bob", (1, 2))


def book_of(*slips, asked=digest):
    """A book that heard these slips."""
    book = Book(PLAN, "king", KEYS, asked)
    for slip in slips:
        book.hear(slip)
    return book


def book_by(*deeds):
    """A book in which the k-th of these deeds, from 1, is done on day k, by the king's number k."""
    return book_of(*[slip_of("king", k, k, deed, *KEYS) for k, deed in enumerate(deeds, start=1)])


def kings(*numbers):
    """The pairs of the king's numbers."""
    return tuple([("king", number) for number in numbers])


class Titles(unittest.TestCase):
    def test_of_a_grant(self):
        book = book_by(EAST, WEST)
        self.assertEqual(title(book, "east", 60), kings(1))
        self.assertEqual(title(book, "west", 60), kings(2))
        self.assertIs(type(title(book, "west", 60)), tuple)

    def test_gives_burdens_and_frees(self):
        book = book_by(EAST, WEST, HALF, ("burden", "west", "rent", "carl"), ("burden", "east", "rent", "carl"),
                       ("burden", "east", "corn", "bob"), ("free", "east", "rent"), ("free", "west", "rent"))
        self.assertEqual(title(book, "east", 60), kings(1, 3, 5, 6, 7))
        self.assertEqual(title(book, "west", 60), kings(2, 4, 8))

    def test_ways_are_of_no_title(self):
        book = book_by(EAST, ("way", "east", RIGHT), ("close", "east"), HALF)
        self.assertEqual(set(book.words(60).values()), {"done"})
        self.assertEqual(title(book, "east", 60), kings(1, 4))

    def test_of_a_split(self):
        book = book_by(("grant", "all", ALL, "ann"), ("burden", "all", "rent", "carl"), ("split", "all", "east", RIGHT),
                       HALF, ("burden", "all", "corn", "bob"), ("split", "all", "west", LEFT))
        self.assertEqual(title(book, "east", 60), kings(1, 2, 3, 4))
        self.assertEqual(title(book, "all", 60), kings(1, 2, 3, 5, 6))
        self.assertEqual(title(book, "west", 60), kings(1, 2, 3, 5, 6))

    def test_of_a_split_of_a_split(self):
        book = book_by(("grant", "all", ALL, "ann"), ("split", "all", "east", RIGHT), ("burden", "all", "rent", "bob"),
                       ("split", "east", "south", RIGHT[:1]), ("burden", "east", "rent", "bob"))
        self.assertEqual(title(book, "south", 60), kings(1, 2, 4))
        self.assertEqual(title(book, "east", 60), kings(1, 2, 4, 5))
        self.assertEqual(title(book, "all", 60), kings(1, 2, 3))

    def test_of_a_join(self):
        book = book_by(EAST, MID, WEST, ("burden", "mid", "rent", "bob"), ("free", "mid", "rent"), ("join", "east", "mid"),
                       ("burden", "west", "rent", "bob"), HALF)
        self.assertEqual(title(book, "east", 60), kings(1, 2, 4, 5, 6, 8))
        self.assertEqual(title(book, "west", 60), kings(3, 7))

    def test_of_a_split_behind_a_join(self):
        book = book_by(EAST, MID, ("join", "east", "mid"), ("split", "east", "new", RIGHT), ("burden", "new", "rent", "bob"))
        self.assertEqual(title(book, "new", 60), kings(1, 2, 3, 4, 5))
        self.assertEqual(title(book, "east", 60), kings(1, 2, 3, 4))

    def test_each_pair_once(self):
        book = book_by(("grant", "all", ALL, "ann"), ("split", "all", "east", RIGHT), ("split", "east", "south", RIGHT[:1]),
                       ("join", "east", "south"), ("join", "all", "east"), ("split", "all", "west", LEFT),
                       ("join", "west", "all"))
        self.assertEqual(title(book, "west", 60), kings(1, 2, 3, 4, 5, 6, 7))

    def test_only_what_is_done(self):
        slips = [slip_of("king", 1, 1, EAST, "king"), slip_of("king", 2, 2, EAST, "king"), slip_of("ann", 1, 3, HALF),
                 slip_of("ann", 2, 4, HALF, "ann"), slip_of("bob", 2, 5, ("give", "east", "bob", "carl", (1, 2)), "bob"),
                 slip_of("carl", 1, 5, ("close", "east"), "carl"), slip_of("carl", 1, 6, ("close", "east"), "carl")]
        book = book_of(*slips)
        words = ["unsealed", "done", "waits", "struck", "done", "void"]
        self.assertEqual(list(book.words(60).values()), words)
        self.assertEqual(title(book, "east", 60), (("king", 1), ("ann", 2)))

    def test_in_the_order_of_days_hands_and_numbers(self):
        burdens = [("burden", "east", name, "ann") for name in "pqrstuvwxyzo"]
        slips = [slip_of("bob", 1, 5, EAST, "bob", "king")]
        slips += [slip_of("bob", k, 6, burdens[k], "bob", "ann") for k in range(2, 12)]
        slips += [slip_of("ann", 1, 7, burdens[0], "ann"), slip_of("king", 1, 6, burdens[1], "king", "ann")]
        told = [("bob", k) for k in range(1, 12)] + [("king", 1), ("ann", 1)]
        for order in (slips, slips[::-1]):
            self.assertEqual(title(book_of(*order), "east", 60), tuple(told))

    def test_on_each_day(self):
        book = book_by(("grant", "all", ALL, "ann"), ("split", "all", "east", RIGHT), HALF, ("join", "all", "east"),
                       ("give", "all", "ann", "bob", (1, 2)), ("join", "all", "east"))
        self.assertEqual(list(book.words(60).values()), ["done", "done", "done", "void", "done", "done"])
        for day in range(61):
            if day < 1:
                self.assertRaises(NoLot, title, book, "all", day)
            else:
                told = (1, 2, 3, 5, 6) if day > 5 else (1, 2, 5)
                self.assertEqual(title(book, "all", day), kings(*[k for k in told if k <= day]))
            if 2 <= day < 6:
                self.assertEqual(title(book, "east", day), kings(*[k for k in (1, 2, 3) if k <= day]))
            else:
                self.assertRaises(NoLot, title, book, "east", day)

    def test_no_lot_then_no_day_then_no_lot(self):
        book = book_by(EAST, MID, ("join", "east", "mid"), ("way", "lane", RIGHT))
        for thing in [*anything(), ("east",), ["east"], "East", "eastwards"]:
            if thing not in ("a", "x"):
                for day in (60, 61, True, None, thing):
                    with self.subTest(thing=thing, day=day):
                        with self.assertRaises(NoLot) as caught:
                            title(book, thing, day)
                        self.assertIs(caught.exception.name, thing)
        for thing in [*anything(), -1, 61, "3", (3,)]:
            if isinstance(thing, bool) or not isinstance(thing, int) or not 0 <= thing <= 60:
                for lot in ("east", "mid", "none"):
                    with self.subTest(thing=thing):
                        with self.assertRaises(NoDay) as caught:
                            title(book, lot, thing)
                        self.assertIs(caught.exception.day, thing)
        for lot, day in [("none", 60), ("mid", 60), ("mid", 3), ("mid", 1), ("lane", 60), ("king", 60), ("east", 0)]:
            with self.assertRaises(NoLot) as caught:
                title(book, lot, day)
            self.assertEqual(caught.exception.name, lot)
            self.assertIsInstance(caught.exception, LotError)
        self.assertEqual(title(book, "mid", 2), kings(2))

    def test_by_names_in_any_order(self):
        self.assertEqual(title(day=60, lot="east", book=book_by(EAST)), kings(1))

    def test_a_digest_that_raises(self):
        book = book_of(slip_of("king", 1, 1, EAST, "king"), asked=broken)
        self.assertRaises(Broken, title, book, "east", 60)
        self.assertRaises(NoLot, title, book, "east", 0)
        self.assertRaises(NoLot, title, book, "East", 60)
        self.assertEqual(book, book_of(slip_of("king", 1, 1, EAST, "king")))


class Regained(unittest.TestCase):
    def test_of_a_title(self):
        book = book_by(EAST, MID, WEST, HALF, ("burden", "west", "rent", "bob"))
        land = regained(book, title(book, "east", 60))
        self.assertIs(type(land), Land)
        self.assertEqual(land.lots(), {"east": book.land(60).lot("east")})
        self.assertEqual((land.plan(), land.giver()), (PLAN, "king"))
        self.assertEqual(regained(book, title(book, "west", 4)).lots(), {"west": (LEFT, (("ann", (1, 1)),), ())})

    def test_no_pairs(self):
        self.assertEqual(regained(book_by(EAST), ()), Land(PLAN, "king"))
        self.assertEqual(regained(book_by(EAST), []), Land(PLAN, "king"))

    def test_out_of_order_and_twice(self):
        book = book_by(EAST, HALF, ("give", "east", "bob", "carl", (1, 4)))
        for pairs in [kings(1, 2, 3), kings(3, 2, 1), kings(2, 3, 1, 2, 3, 1, 1), list(kings(3, 1, 2)),
                      [["king", 3], ("king", 2), ["king", 1], ["king", 3]]]:
            with self.subTest(pairs=pairs):
                kept = repr(pairs)
                self.assertEqual(regained(book, pairs), book.land(60))
                self.assertEqual(repr(pairs), kept)

    def test_in_the_order_of_days_hands_and_numbers(self):
        one, other = ("grant", "one", RIGHT, "ann"), ("grant", "other", RIGHT, "ann")
        joined = [slip_of("ann", 10, 4, ("burden", "one", "x", "ann")), slip_of("ann", 9, 4, ("burden", "one", "y", "ann")),
                  slip_of("bob", 1, 3, one), slip_of("ann", 11, 5, ("free", "one", "x"))]
        land = regained(book_of(*joined), [("ann", 11), ("ann", 10), ("ann", 9), ("bob", 1)])
        self.assertEqual(land.lot("one")[2], (("y", "ann"),))
        land = regained(book_of(*joined), [("ann", 10), ("ann", 9), ("bob", 1)])
        self.assertEqual(land.lot("one")[2], (("y", "ann"), ("x", "ann")))
        late = [slip_of("ann", 1, 9, one), slip_of("bob", 1, 8, other)]
        self.assertRaises(NoDeed, regained, book_of(*late), [("ann", 1), ("bob", 1)])
        hands = [slip_of("bob", 1, 8, one), slip_of("ann", 1, 8, ("close", "none"))]
        self.assertRaises(NoDeed, regained, book_of(*hands), [("ann", 1), ("bob", 1)])

    def test_of_whatever_word(self):
        slips = [slip_of("bob", 2, 3, EAST), slip_of("ann", 1, 60, HALF), slip_of("king", 1, 9, ("close", "lane")),
                 slip_of("king", 2, 8, WEST)]
        book = book_of(*slips)
        words = {("ann", 1): "later", ("bob", 2): "waits", ("king", 1): "later", ("king", 2): "untimely"}
        self.assertEqual(book.words(7), words)
        lots = regained(book, [("ann", 1), ("bob", 2), ("king", 2)]).lots()
        self.assertEqual(lots["east"][1], (("ann", (1, 2)), ("bob", (1, 2))))
        self.assertEqual(list(lots), ["east", "west"])
        self.assertEqual(book_by(EAST, EAST).words(60), {("king", 1): "done", ("king", 2): "void"})
        self.assertEqual(list(regained(book_by(EAST, EAST), kings(2)).lots()), ["east"])
        self.assertEqual(list(regained(book_of(slip_of("king", 1, 3, EAST)), kings(1)).lots()), ["east"])

    def test_slips_of_one_body(self):
        book = book_of(slip_of("king", 1, 3, EAST), slip_of("king", 1, 3, EAST, "king"), slip_of("king", 1, 3, EAST, "ann"))
        self.assertEqual(list(regained(book, kings(1)).lots()), ["east"])

    def test_no_slip(self):
        book = book_of(slip_of("king", 1, 1, EAST, "king"), slip_of("king", 2, 2, WEST), slip_of("king", 2, 2, MID))
        self.assertEqual(book.words(60)[("king", 2)], "struck")
        for thing in anything():
            if thing not in ([], ()):
                with self.subTest(thing=thing):
                    self.assertRaises(NoSlip, regained, book, thing)
            self.assertRaises(NoSlip, regained, book, [thing])
            self.assertRaises(NoSlip, regained, book, [("king", 1), thing])
            self.assertRaises(NoSlip, regained, book, [(thing, 1)])
            if thing != 1 or isinstance(thing, bool):
                self.assertRaises(NoSlip, regained, book, [("king", thing)])
        for pairs in [kings(2), kings(1, 2), kings(2, 1), kings(3), kings(1, 3), kings(0), kings(-1), kings(100), kings(True),
                      [("ann", 1)], ("king", 1), [("king", 1, 1)], [("king",)], {("king", 1): 1}, "king", [("king", "1")],
                      [("king", (1,))], [(["king"], 1)], [("king", None)], [{"king": 1, 1: 1}], [{"king", 1}], (("king", 1), 1)]:
            with self.subTest(pairs=pairs):
                self.assertRaises(NoSlip, regained, book, pairs)

    def test_no_slip_ahead_of_no_deed(self):
        book = book_by(EAST, EAST)
        self.assertRaises(NoDeed, regained, book, kings(1, 2))
        self.assertRaises(NoSlip, regained, book, kings(1, 2, 3))
        self.assertRaises(NoDeed, regained, book_by(EAST, HALF), kings(2))
        self.assertRaises(LotError, regained, book_by(EAST, HALF), kings(2))

    def test_no_digest_is_needed(self):
        book = book_of(slip_of("king", 1, 1, EAST, "king"), asked=broken)
        self.assertEqual(list(regained(book, kings(1)).lots()), ["east"])

    def test_the_askers_own(self):
        book = book_by(EAST)
        regained(book, kings(1)).do(WEST)
        self.assertEqual(list(regained(book, kings(1)).lots()), ["east"])
        self.assertEqual(book, book_by(EAST))

    def test_by_names_in_any_order(self):
        self.assertEqual(list(regained(pairs=kings(1), book=book_by(EAST)).lots()), ["east"])


def plain_title(done, lot, end):
    """The pairs of a lot's title behind the first so many of the done slips, as point [90] tells them, in any order."""
    pairs = set()
    for k, (_, hand, number, _, deed, _) in enumerate(done[:end]):
        if deed[:2] == ("grant", lot) or deed[0] == "split" and deed[2] == lot:
            pairs = {(hand, number)}
            if deed[0] == "split":
                pairs |= plain_title(done, deed[1], k)
        elif deed[0] in ("give", "burden", "free", "split", "join") and deed[1] == lot:
            pairs.add((hand, number))
            if deed[0] == "join":
                pairs |= plain_title(done, deed[2], k)
    return pairs


class Histories(unittest.TestCase):
    def test_against_plain_reckoning(self):
        long, days = 0, random.Random(1)
        for seed in range(60):
            slips = history(seed, 30)
            book = book_of(*days.sample(slips, len(slips)))
            for day in (days.randrange(61), 60):
                words, lots = book.words(day), book.land(day).lots()
                done = sorted([slip for slip in slips if words[slip[1:3]] == "done"], key=lambda slip: (slip[3], slip[1:3]))
                order = [slip[1:3] for slip in done]
                for lot in [*"lmnopqrstuv", "none"]:
                    if lot not in lots:
                        self.assertRaises(NoLot, title, book, lot, day)
                        continue
                    told = title(book, lot, day)
                    self.assertEqual(list(told), sorted(plain_title(done, lot, len(done)), key=order.index))
                    land = regained(book, days.sample(told, len(told)))
                    self.assertEqual(land.lot(lot), lots[lot])
                    long += len(told) > 4
        self.assertGreater(long, 50)

    def test_two_of_a_day_go_by_their_hands(self):
        slips = [slip_of("king", 1, 4, EAST, "king"), slip_of("ann", 1, 4, WEST, "ann", "king"),
                 slip_of("king", 2, 5, MID, "king"), slip_of("king", 3, 5, ("join", "west", "mid"), "king", "ann"),
                 slip_of("bob", 1, 5, ("join", "west", "east"), "bob", "ann"),
                 slip_of("king", 4, 5, ("join", "west", "east"), "king", "ann")]
        book = book_of(*slips)
        self.assertEqual(book.words(60)[("bob", 1)], "void")
        self.assertEqual(title(book, "west", 60), (("ann", 1), *kings(1, 2, 3, 4)))


if __name__ == "__main__":
    unittest.main()
