"""Points [80] and [81]: books; points [2] (d), (i), and [3] as far as they speak of these."""

import itertools
import random
import unittest

from lothouse.books import Book
from lothouse.errors import LotError, NoDay, NoKey, NoSlip
from lothouse.land import Land
from lothouse.plans import Plan
from lothouse.slips import is_sealed, sealed, slip_text
from tests.digests import Broken, broken, digest, never
from tests.test_slips import TEXTS as SLIP_TEXTS
from tests.test_slips import WRONG
from tests.things import anything

PLAN = Plan(["a", "b", "c", "d"], ["e", "f", "g"])
KEYS = {"king": "crown", "ann": "apple", "bob": "berry", "carl": "cherry"}
LEFT, RIGHT = ((0, 0), (0, 1)), ((2, 0), (2, 1))

EAST = ("grant", "east", RIGHT, "ann")
WEST = ("grant", "west", LEFT, "bob")
HALF = ("give", "east", "ann", "bob", (1, 2))


def slip_of(hand, number, day, deed, *names):
    """A slip with the right marks of these names."""
    slip = ("slip", hand, number, day, deed, ())
    for name in names:
        slip = sealed(slip, name, KEYS[name], digest)
    return slip


def book_of(*slips):
    """A book that heard these slips."""
    book = Book(PLAN, "king", KEYS, digest)
    for slip in slips:
        book.hear(slip)
    return book


GRANT = slip_of("king", 1, 3, EAST, "king")
GRANT_WEST = slip_of("king", 2, 5, WEST, "king")
GIVE = slip_of("ann", 1, 4, HALF, "ann")


class Hearing(unittest.TestCase):
    def test_new_and_known(self):
        book = book_of()
        self.assertEqual(book.hear(GRANT), "new")
        self.assertEqual(book.hear(GRANT), "known")
        self.assertEqual(book.hear(GIVE), "new")
        self.assertEqual(book.hear(GRANT), "known")
        bare = slip_of("king", 1, 3, EAST)
        self.assertEqual(book.hear(bare), "new")
        self.assertEqual(book.hear(slip=bare), "known")
        self.assertEqual(book.slips(), sorted([GRANT, GIVE, bare], key=slip_text))

    def test_no_slip(self):
        book = book_of(GRANT)
        spoilt = [(*GRANT[:k], thing, *GRANT[k + 1:]) for k, things in WRONG.items() for thing in things]
        for thing in [*anything(), slip_text(GRANT), list(GRANT), *spoilt]:
            with self.subTest(thing=thing):
                self.assertRaises(NoSlip, book.hear, thing)
                self.assertRaises(LotError, book.hear, thing)
        self.assertEqual(book.slips(), [GRANT])

    def test_no_digest_is_asked(self):
        book = Book(PLAN, "king", KEYS, never)
        self.assertEqual([book.hear(slip) for slip in (GRANT, GIVE, GRANT)], ["new", "new", "known"])
        self.assertEqual(book.slips(), [GIVE, GRANT])

    def test_slips_rise_by_their_texts(self):
        slips = [*SLIP_TEXTS.values(), GRANT, GIVE, slip_of("ann", 10, 4, HALF), slip_of("ann", 2, 4, HALF)]
        book = book_of(*slips)
        told = book.slips()
        self.assertIs(type(told), list)
        self.assertEqual([slip_text(slip) for slip in told], sorted([slip_text(slip) for slip in slips]))
        told.clear()
        self.assertEqual(len(book.slips()), len(slips))

    def test_what_it_was_made_of(self):
        keys = dict(KEYS)
        book = Book(PLAN, "king", keys, digest)
        self.assertEqual((book.plan(), book.giver(), book.known_keys()), (PLAN, "king", KEYS))
        keys["dan"] = "date"
        del keys["ann"]
        book.known_keys().clear()
        self.assertEqual(book.known_keys(), KEYS)
        self.assertIs(type(book.known_keys()), dict)

    def test_no_key(self):
        for thing in [*anything(), list(KEYS), [("ann", "apple")], (("ann", "apple"),), {"Ann": "apple"}, {"ann": "Apple"},
                      {"ann": ""}, {"ann": None}, {1: "apple"}, {"ann": "apple", "bob": 1}, {"ann": ["apple"]},
                      {"ann": "abcdefghijklmnopqrstu"}, {"abcdefghi": "apple"}, {"ann": "apple", ("bob",): "berry"}]:
            if thing != {}:
                with self.subTest(thing=thing):
                    self.assertRaises(NoKey, Book, PLAN, "king", thing, digest)
        self.assertEqual(Book(PLAN, "king", {}, digest).known_keys(), {})
        self.assertEqual(Book(PLAN, "king", {"abcdefgh": "abcdefghijklmnopqrst"}, digest).slips(), [])

    def test_by_names_in_any_order(self):
        book = Book(digest=digest, keys=KEYS, giver="king", plan=PLAN)
        book.hear(slip=GRANT)
        self.assertEqual(book.words(day=3), {("king", 1): "done"})
        self.assertEqual(list(book.land(day=3).lots()), ["east"])
        self.assertEqual(book.mark(day=3), digest(slip_text(GRANT)))
        self.assertEqual(book.ripple(day=3, slip=GRANT), ([], []))


class Words(unittest.TestCase):
    def word(self, pair, day, *slips):
        """The word of a pair, whatever order the slips are heard in."""
        words = {book_of(*order).words(day)[pair] for order in itertools.permutations(slips)}
        self.assertEqual(len(words), 1)
        return words.pop()

    def test_done(self):
        self.assertEqual(self.word(("king", 1), 60, GRANT), "done")
        self.assertEqual(self.word(("king", 1), 3, GRANT), "done")
        self.assertEqual(self.word(("ann", 1), 4, GRANT, GIVE), "done")
        self.assertEqual(book_of(GRANT, GIVE).land(4).lot("east")[1], (("ann", (1, 2)), ("bob", (1, 2))))

    def test_struck(self):
        other = slip_of("king", 1, 3, WEST, "king")
        self.assertEqual(self.word(("king", 1), 60, GRANT, other), "struck")
        self.assertEqual(self.word(("king", 1), 0, GRANT, other), "struck")
        self.assertEqual(self.word(("king", 1), 60, GRANT, slip_of("king", 1, 4, EAST, "king")), "struck")
        self.assertEqual(self.word(("king", 1), 60, GRANT, slip_of("king", 1, 3, EAST), other), "struck")
        self.assertEqual(book_of(GRANT, other).land(60).lots(), {})
        self.assertEqual(self.word(("king", 1), 60, GRANT, slip_of("ann", 1, 3, WEST, "king")), "done")

    def test_slips_of_one_body_strike_nothing(self):
        self.assertEqual(self.word(("king", 1), 60, GRANT, slip_of("king", 1, 3, EAST)), "done")
        self.assertEqual(self.word(("king", 1), 60, slip_of("king", 1, 3, EAST, "ann"), GRANT), "done")

    def test_waits(self):
        self.assertEqual(self.word(("king", 2), 60, GRANT_WEST), "waits")
        self.assertEqual(self.word(("king", 2), 0, GRANT_WEST), "waits")
        self.assertEqual(self.word(("king", 2), 60, GRANT_WEST, slip_of("ann", 1, 3, EAST, "king")), "waits")
        self.assertEqual(self.word(("king", 2), 60, GRANT_WEST, GRANT), "done")
        third = slip_of("king", 3, 6, WEST, "king")
        self.assertEqual(self.word(("king", 3), 60, GRANT, third), "waits")
        self.assertEqual(self.word(("king", 3), 60, GRANT_WEST, third), "waits")
        self.assertEqual(self.word(("king", 1), 60, GRANT, third), "done")

    def test_a_struck_number_was_heard(self):
        other = slip_of("king", 1, 3, WEST, "king")
        self.assertEqual(self.word(("king", 2), 60, GRANT, other, GRANT_WEST), "done")

    def test_untimely(self):
        first = slip_of("king", 1, 6, EAST, "king")
        self.assertEqual(self.word(("king", 2), 60, first, GRANT_WEST), "untimely")
        self.assertEqual(self.word(("king", 2), 0, first, GRANT_WEST), "untimely")
        self.assertEqual(self.word(("king", 2), 60, slip_of("king", 1, 5, EAST, "king"), GRANT_WEST), "done")

    def test_untimely_whatever_the_others_word(self):
        for deed, names in [(EAST, ()), (HALF, ("king", "ann")), (("close", "none"), ("king",))]:
            first = slip_of("king", 1, 6, deed, *names)
            self.assertEqual(self.word(("king", 2), 60, first, GRANT_WEST), "untimely")
        late = slip_of("king", 1, 60, EAST, "king")
        self.assertEqual(self.word(("king", 2), 10, late, GRANT_WEST), "untimely")
        slips = [slip_of("king", 1, 9, EAST, "king"), slip_of("king", 2, 7, WEST, "king"),
                 slip_of("king", 3, 8, WEST, "king"), slip_of("king", 4, 9, WEST, "king")]
        words = book_of(*slips).words(60)
        self.assertEqual(words, {("king", 1): "done", ("king", 2): "untimely", ("king", 3): "untimely", ("king", 4): "done"})

    def test_a_struck_ones_day_is_none(self):
        struck = [slip_of("king", 1, 9, EAST, "king"), slip_of("king", 1, 8, EAST, "king")]
        self.assertEqual(self.word(("king", 2), 60, *struck, GRANT_WEST), "done")

    def test_later(self):
        self.assertEqual(self.word(("king", 1), 2, GRANT), "later")
        self.assertEqual(self.word(("king", 1), 0, GRANT), "later")
        self.assertEqual(self.word(("king", 1), 2, slip_of("king", 1, 3, ("close", "none"))), "later")
        self.assertEqual(book_of(GRANT).land(2).lots(), {})

    def test_void(self):
        self.assertEqual(self.word(("ann", 1), 60, GIVE), "void")
        self.assertEqual(self.word(("king", 2), 60, GRANT, slip_of("king", 2, 4, EAST, "king")), "void")
        self.assertEqual(self.word(("ann", 1), 60, slip_of("ann", 1, 3, ("close", "none"))), "void")
        beyond = ("grant", "far", ((6, 6),), "ann")
        self.assertEqual(self.word(("king", 1), 60, slip_of("king", 1, 3, beyond, "king")), "void")

    def test_unsealed(self):
        self.assertEqual(self.word(("king", 1), 60, slip_of("king", 1, 3, EAST)), "unsealed")
        self.assertEqual(self.word(("king", 1), 60, slip_of("king", 1, 3, EAST, "ann", "bob")), "unsealed")
        wrong = sealed(slip_of("king", 1, 3, EAST), "king", "crowns", digest)
        self.assertEqual(self.word(("king", 1), 60, wrong), "unsealed")
        self.assertEqual(book_of(wrong).land(60).lots(), {})
        another = (*slip_of("king", 1, 3, EAST)[:5], slip_of("king", 1, 4, EAST, "king")[5])
        self.assertEqual(self.word(("king", 1), 60, another), "unsealed")

    def test_the_hand_seals_too(self):
        self.assertEqual(self.word(("ann", 1), 60, slip_of("ann", 1, 3, EAST, "king")), "unsealed")
        self.assertEqual(self.word(("ann", 1), 60, slip_of("ann", 1, 3, EAST, "ann")), "unsealed")
        self.assertEqual(self.word(("ann", 1), 60, slip_of("ann", 1, 3, EAST, "ann", "king")), "done")

    def test_all_who_are_needed_seal(self):
        burden = ("burden", "east", "rent", "carl")
        for names, word in [(("ann", "bob"), "done"), (("ann",), "unsealed"), (("bob",), "unsealed"), ((), "unsealed"),
                            (("ann", "bob", "carl"), "done"), (("ann", "carl"), "unsealed")]:
            slip = slip_of("ann", 2, 9, burden, *names)
            self.assertEqual(self.word(("ann", 2), 60, GRANT, GIVE, slip), word)

    def test_seals_of_all_slips_of_a_body_count(self):
        burden = ("burden", "east", "rent", "carl")
        one, other = slip_of("ann", 2, 9, burden, "ann"), slip_of("ann", 2, 9, burden, "bob")
        self.assertEqual(self.word(("ann", 2), 60, GRANT, GIVE, one, other), "done")
        wrong = sealed(other, "ann", "wrong", digest)
        self.assertEqual(self.word(("ann", 2), 60, GRANT, GIVE, one, wrong), "done")
        self.assertEqual(self.word(("ann", 2), 60, GRANT, GIVE, wrong), "unsealed")

    def test_one_without_a_key_here(self):
        keys = {name: KEYS[name] for name in ("king", "ann")}
        burden = slip_of("ann", 2, 9, ("burden", "east", "rent", "carl"), "ann", "bob")
        for known, word in [(KEYS, "done"), (keys, "unsealed")]:
            book = Book(PLAN, "king", known, digest)
            for slip in (GRANT, GIVE, burden):
                book.hear(slip)
            self.assertEqual(book.words(60)[("ann", 2)], word)
        grant = slip_of("bob", 1, 3, EAST, "bob", "king")
        book = Book(PLAN, "king", keys, digest)
        book.hear(grant)
        self.assertEqual(book.words(60), {("bob", 1): "unsealed"})

    def test_void_ahead_of_unsealed(self):
        self.assertEqual(self.word(("ann", 1), 60, slip_of("ann", 1, 4, HALF)), "void")

    def test_the_first_word_that_fits(self):
        two = [slip_of("king", 3, 5, EAST, "king"), slip_of("king", 3, 6, EAST, "king")]
        self.assertEqual(self.word(("king", 3), 2, *two), "struck")
        first = slip_of("king", 1, 6, EAST, "king")
        self.assertEqual(self.word(("king", 2), 2, first, *[(*slip[:2], 2, *slip[3:]) for slip in two]), "struck")
        third = slip_of("king", 3, 5, ("close", "none"))
        self.assertEqual(self.word(("king", 3), 2, first, third), "waits")
        self.assertEqual(self.word(("king", 3), 2, first, slip_of("king", 2, 7, EAST), third), "untimely")
        self.assertEqual(self.word(("king", 1), 2, slip_of("king", 1, 5, ("close", "none"))), "later")

    def test_one_by_one_by_day_hand_and_number(self):
        cells = ((1, 0),)
        deeds = {lot: ("grant", lot, cells, "ann") for lot in ("x", "y")}
        by_day = [slip_of("king", 1, 4, deeds["x"], "king"), slip_of("ann", 1, 5, deeds["y"], "ann", "king")]
        self.assertEqual(self.word(("king", 1), 60, *by_day), "done")
        self.assertEqual(self.word(("ann", 1), 60, *by_day), "void")
        by_hand = [slip_of("king", 1, 4, deeds["x"], "king"), slip_of("ann", 1, 4, deeds["y"], "ann", "king")]
        self.assertEqual(self.word(("king", 1), 60, *by_hand), "void")
        self.assertEqual(self.word(("ann", 1), 60, *by_hand), "done")
        by_number = [slip_of("king", 1, 4, deeds["x"], "king"), slip_of("king", 2, 4, deeds["y"], "king")]
        self.assertEqual(self.word(("king", 1), 60, *by_number), "done")
        self.assertEqual(self.word(("king", 2), 60, *by_number), "void")

    def test_numbers_go_as_numbers(self):
        fillers = [slip_of("king", k, 4, ("close", "none")) for k in range(1, 12) if k not in (2, 10)]
        two = slip_of("king", 2, 4, ("grant", "x", ((1, 0),), "ann"), "king")
        ten = slip_of("king", 10, 4, ("grant", "y", ((1, 0),), "ann"), "king")
        words = book_of(ten, *fillers, two).words(60)
        self.assertEqual((words[("king", 2)], words[("king", 10)]), ("done", "void"))
        self.assertEqual(list(words), [("king", k) for k in range(1, 12)])

    def test_what_is_unsealed_or_void_does_nothing(self):
        slips = [slip_of("king", 1, 3, EAST), slip_of("king", 2, 4, ("grant", "y", RIGHT, "ann"), "king")]
        book = book_of(*slips)
        self.assertEqual(book.words(60), {("king", 1): "unsealed", ("king", 2): "done"})
        self.assertEqual(list(book.land(60).lots()), ["y"])

    def test_a_new_dict_of_rising_pairs(self):
        book = book_of(GRANT_WEST, GIVE, GRANT)
        told = book.words(60)
        self.assertEqual(list(told), [("ann", 1), ("king", 1), ("king", 2)])
        told.clear()
        self.assertEqual(len(book.words(60)), 3)
        self.assertEqual(book_of().words(60), {})

    def test_no_day(self):
        book = book_of(GRANT)
        for thing in [*anything(), 61, -1, 10 ** 39, True, False, "3", (3,), None]:
            if isinstance(thing, bool) or not isinstance(thing, int) or not 0 <= thing <= 60:
                for method in (book.words, book.land, book.mark, lambda day: book.ripple(GRANT, day)):
                    with self.subTest(thing=thing):
                        with self.assertRaises(NoDay) as caught:
                            method(thing)
                        self.assertIs(caught.exception.day, thing)
        for day in range(61):
            self.assertEqual(book.words(day), {("king", 1): "done" if day >= 3 else "later"})
            self.assertEqual(list(book.land(day).lots()), ["east"] if day >= 3 else [])
            self.assertEqual(book.mark(day) != 0, day == 3)
            self.assertEqual(book.ripple(GRANT, day), ([], []))


class Lands(unittest.TestCase):
    def test_the_askers_own(self):
        book = book_of(GRANT)
        land = book.land(60)
        self.assertIs(type(land), Land)
        land.do(WEST)
        self.assertEqual(list(book.land(60).lots()), ["east"])
        self.assertEqual((book.land(60).plan(), book.land(60).giver()), (PLAN, "king"))

    def test_day_by_day(self):
        book = book_of(GRANT, GRANT_WEST, GIVE)
        for day in range(61):
            land = Land(PLAN, "king")
            for first, deed in [(3, EAST), (4, HALF), (5, WEST)]:
                if day >= first:
                    land.do(deed)
            self.assertEqual(book.land(day), land)


class Marks(unittest.TestCase):
    def test_of_a_day_alone(self):
        more = slip_of("bob", 1, 3, WEST, "bob")
        book = book_of(GRANT, more, GIVE)
        self.assertEqual(book.mark(3), digest("\n".join(sorted([slip_text(GRANT), slip_text(more)]))))
        self.assertEqual(book.mark(4), digest(slip_text(GIVE)))
        self.assertEqual([book.mark(day) for day in (0, 2, 5, 60)], [0, 0, 0, 0])
        self.assertEqual(book.marks(), ((3, book.mark(3)), (4, book.mark(4))))

    def test_slips_of_any_word_and_seals(self):
        slips = [GRANT, slip_of("king", 1, 3, WEST), slip_of("king", 1, 3, EAST), slip_of("ann", 9, 60, HALF)]
        book = book_of(*slips)
        self.assertEqual(book.mark(3), digest("\n".join(sorted([slip_text(slip) for slip in slips[:3]]))))
        self.assertEqual(book.marks(), ((3, book.mark(3)), (60, digest(slip_text(slips[3])))))

    def test_none(self):
        book = Book(PLAN, "king", KEYS, never)
        self.assertEqual(book.marks(), ())
        self.assertEqual([book.mark(day) for day in range(61)], [0] * 61)

    def test_days_rise(self):
        book = book_of(*[slip_of("ann", k, 61 - k, HALF) for k in range(1, 61)])
        self.assertEqual([day for day, _ in book.marks()], list(range(1, 61)))
        self.assertIs(type(book.marks()), tuple)

    def test_a_mark_of_nought_is_one(self):
        book = Book(PLAN, "king", KEYS, lambda text: 0)
        book.hear(GRANT)
        self.assertEqual(book.marks(), ((3, 0),))


class Ripples(unittest.TestCase):
    def test_of_a_known_one(self):
        self.assertEqual(book_of(GRANT, GIVE).ripple(GRANT, 60), ([], []))

    def test_of_a_new_one(self):
        book = book_of(GRANT)
        before, after = (RIGHT, (("ann", (1, 1)),), ()), (RIGHT, (("ann", (1, 2)), ("bob", (1, 2))), ())
        self.assertEqual(book.ripple(GIVE, 60), ([(("ann", 1), None, "done")], [("east", before, after)]))
        self.assertEqual(book.ripple(GIVE, 4), ([(("ann", 1), None, "done")], [("east", before, after)]))
        self.assertEqual(book.ripple(GIVE, 3), ([(("ann", 1), None, "later")], []))
        told = ([(("king", 2), None, "done")], [("west", None, (LEFT, (("bob", (1, 1)),), ()))])
        self.assertEqual(book.ripple(GRANT_WEST, 60), told)

    def test_of_one_that_strikes(self):
        book = book_of(GRANT, GIVE)
        lot = book.land(60).lot("east")
        told = book.ripple(slip_of("king", 1, 9, WEST), 60)
        self.assertEqual(told, ([(("ann", 1), "done", "void"), (("king", 1), "done", "struck")], [("east", lot, None)]))
        self.assertEqual(book.ripple(slip_of("king", 1, 9, WEST), 0), ([(("king", 1), "later", "struck")], []))

    def test_of_one_that_frees_those_that_wait(self):
        book = book_of(GRANT_WEST, slip_of("king", 3, 6, ("way", "lane", LEFT), "bob", "king"))
        self.assertEqual(list(book.words(60).values()), ["waits", "waits"])
        words, lots = book.ripple(GRANT, 60)
        self.assertEqual(words, [(("king", 1), None, "done"), (("king", 2), "waits", "done"), (("king", 3), "waits", "done")])
        self.assertEqual([(name, now) for name, now, _ in lots], [("east", None), ("west", None)])
        self.assertEqual([then for _, _, then in lots], [(RIGHT, (("ann", (1, 1)),), ()), (LEFT, (("bob", (1, 1)),), ())])

    def test_of_another_seal(self):
        bare = slip_of("king", 1, 3, EAST)
        book = book_of(bare)
        lot = (RIGHT, (("ann", (1, 1)),), ())
        self.assertEqual(book.ripple(GRANT, 60), ([(("king", 1), "unsealed", "done")], [("east", None, lot)]))
        self.assertEqual(book_of(GRANT).ripple(bare, 60), ([], []))

    def test_the_book_stays(self):
        book = book_of(GRANT)
        told = book.ripple(GIVE, 60)
        self.assertEqual(book, book_of(GRANT))
        self.assertEqual(book.hear(GIVE), "new")
        told[0].clear()
        told[1].clear()
        self.assertEqual(book_of(GRANT).ripple(GIVE, 60)[0], [(("ann", 1), None, "done")])
        self.assertIs(type(told), tuple)
        self.assertEqual([type(part) for part in told], [list, list])

    def test_no_slip_then_no_day(self):
        book = book_of(GRANT)
        for thing in [*anything(), list(GRANT), slip_text(GRANT)]:
            with self.subTest(thing=thing):
                self.assertRaises(NoSlip, book.ripple, thing, 3)
                self.assertRaises(NoSlip, book.ripple, thing, 61)
                self.assertRaises(NoSlip, book.ripple, thing, thing)
        self.assertEqual(book, book_of(GRANT))


class Twins(unittest.TestCase):
    def test_they_go_their_own_ways(self):
        book = book_of(GRANT)
        other = book.twin()
        self.assertIs(type(other), Book)
        self.assertEqual(other, book)
        self.assertEqual(other.hear(GIVE), "new")
        self.assertEqual(book.slips(), [GRANT])
        self.assertEqual(book.hear(GRANT_WEST), "new")
        self.assertEqual(other.slips(), [GIVE, GRANT])
        self.assertEqual(other.words(60), {("ann", 1): "done", ("king", 1): "done"})
        self.assertNotEqual(book, other)

    def test_equal(self):
        self.assertTrue(book_of(GRANT, GIVE) == book_of(GIVE, GRANT, GIVE))
        self.assertFalse(book_of(GRANT, GIVE) != book_of(GIVE, GRANT))
        one, other = Book(PLAN, "king", KEYS, digest), Book(Plan(list("abcd"), list("efg")), "king", dict(KEYS), never)
        self.assertTrue(one == other)

    def test_unlike(self):
        book = book_of(GRANT)
        for other in [book_of(), book_of(GRANT, GIVE), book_of(GIVE), book_of(slip_of("king", 1, 3, EAST))]:
            self.assertTrue(book != other)
            self.assertFalse(book == other)
        self.assertFalse(book_of() == Book(PLAN, "ann", KEYS, digest))
        self.assertFalse(book_of() == Book(PLAN, "king", {**KEYS, "dan": "date"}, digest))
        self.assertFalse(book_of() == Book(PLAN, "king", {**KEYS, "ann": "date"}, digest))
        self.assertFalse(book_of() == Book(Plan(list("abcd"), list("ef")), "king", KEYS, digest))
        for thing in [*anything(), PLAN, Land(PLAN, "king")]:
            self.assertFalse(book == thing)


class Digests(unittest.TestCase):
    def test_one_that_raises_leaves_all_as_it_was(self):
        book = Book(PLAN, "king", KEYS, broken)
        for slip in (GRANT, GIVE):
            self.assertEqual(book.hear(slip), "new")
        for call in (lambda: book.words(60), lambda: book.land(60), lambda: book.mark(3), lambda: book.marks(),
                     lambda: book.ripple(GRANT_WEST, 60)):
            self.assertRaises(Broken, call)
            self.assertEqual(book, book_of(GRANT, GIVE))
        self.assertEqual(book.words(0), {("ann", 1): "later", ("king", 1): "later"})
        self.assertEqual(book.mark(5), 0)

    def test_one_that_raises_now_and_then(self):
        troubled = [False]

        def shaky(text):
            return broken(text) if troubled[0] else digest(text)

        book = Book(PLAN, "king", KEYS, shaky)
        book.hear(GRANT)
        troubled[0] = True
        self.assertRaises(Broken, book.words, 60)
        self.assertRaises(Broken, book.ripple, GIVE, 60)
        troubled[0] = False
        self.assertEqual(book.words(60), {("king", 1): "done"})
        self.assertEqual(book.slips(), [GRANT])


def some_slips(seed, many):
    """Slips of few hands and numbers, of which many are struck, wait, or are unsealed."""
    chance = random.Random(seed)
    slips = []
    for _ in range(many):
        hand, lot, other = chance.choice(["king", "king", "ann", "bob"]), chance.choice("xyz"), chance.choice("xyz")
        one, two = chance.sample(["ann", "bob", "carl"], 2)
        cells = chance.choice([LEFT, RIGHT, LEFT[:1], RIGHT[1:], ((1, 0),)])
        deed = chance.choice([
            ("grant", lot, cells, one), ("grant", lot, cells, one), ("give", lot, one, two, (1, 2)), ("join", lot, other),
            ("split", lot, other, cells), ("burden", lot, "rent", one), ("free", lot, "rent"), ("way", "lane", cells),
            ("close", "lane"),
        ])
        names = [name for name in KEYS if chance.random() < 0.8]
        slips.append(slip_of(hand, chance.randrange(1, 5), chance.randrange(1, 9), deed, *names))
    return slips


def plain_words(slips, day):
    """The words and the land of a day, as point [80] tells them, by bodies."""
    bodies = {}
    for slip in slips:
        bodies.setdefault((slip[1], slip[2]), set()).add(slip[:5])
    words, due = {}, []
    for hand, number in bodies:
        alone = {k: min(bodies[hand, k])[3] for k in range(1, number + 1) if len(bodies.get((hand, k), ())) == 1}
        if number not in alone:
            words[hand, number] = "struck"
        elif any((hand, k) not in bodies for k in range(1, number)):
            words[hand, number] = "waits"
        elif max(alone.values()) > alone[number]:
            words[hand, number] = "untimely"
        elif alone[number] > day:
            words[hand, number] = "later"
        else:
            due.append((alone[number], hand, number))
    land = Land(PLAN, "king")
    for _, hand, number in sorted(due):
        deed = min(bodies[hand, number])[4]
        needed = land.needed(deed)
        right = {name for name in KEYS for slip in slips if slip[1:3] == (hand, number)
                 and is_sealed(slip, name, KEYS[name], digest)}
        if needed is None:
            words[hand, number] = "void"
        elif {*needed, hand} <= right:
            words[hand, number] = "done"
            land.do(deed)
        else:
            words[hand, number] = "unsealed"
    return words, land


class Orders(unittest.TestCase):
    def test_against_plain_reckoning_in_any_order(self):
        met = {}
        for seed in range(120):
            slips = some_slips(seed, 4 + seed % 9)
            turned = random.Random(seed + 1000).choices(slips, k=len(slips)) + slips[::-1]
            book = book_of(*slips)
            self.assertEqual(book, book_of(*turned))
            for day in (0, 3, 5, 60):
                words, land = plain_words(slips, day)
                self.assertEqual(book.words(day), words)
                self.assertEqual(list(book.words(day)), sorted(words))
                self.assertEqual(book.land(day), land)
                self.assertEqual(book_of(*turned).words(day), words)
                for word in words.values():
                    met[word] = met.get(word, 0) + 1
            self.assertEqual(book.marks(), book_of(*turned).marks())
        self.assertEqual(sorted(met), ["done", "later", "struck", "unsealed", "untimely", "void", "waits"])
        self.assertGreater(min(met.values()), 20)

    def test_a_slip_more_changes_just_what_its_ripple_tells(self):
        rippled = 0
        for seed in range(300):
            *slips, slip = some_slips(seed, 4 + seed % 9)
            book, other = book_of(*slips), book_of(*slips, slip)
            for day in (0, 5, 60):
                words, lots = book.ripple(slip, day)
                self.assertEqual(book, book_of(*slips))
                self.differs(words, book.words(day), other.words(day))
                self.differs(lots, book.land(day).lots(), other.land(day).lots())
                rippled += len(lots)
        self.assertGreater(rippled, 20)

    def differs(self, told, now, then):
        """What is told is just what is unlike, rising."""
        unlike = [(key, now.get(key), then.get(key)) for key in sorted({*now, *then}) if now.get(key) != then.get(key)]
        self.assertEqual(told, unlike)


if __name__ == "__main__":
    unittest.main()
