"""Point [61]: the land and what deeds do to it; points [2] (c), (i), and [3] as far as they speak of these."""

import random
import unittest

from lothouse.cells import is_piece
from lothouse.errors import LotError, NoDeed, NoLot
from lothouse.land import Land
from lothouse.plans import Plan
from lothouse.shares import is_holding
from tests.things import anything, nested

# Three columns and two rows.
PLAN = Plan(["a", "b", "c", "d"], ["e", "f", "g"])
ANN = (("ann", (1, 1)),)
THIRDS = (("ann", (1, 3)), ("bob", (2, 3)))


def land_of(*deeds):
    """The land on which these deeds were done."""
    land = Land(PLAN, "king")
    for deed in deeds:
        land.do(deed)
    return land


EAST = ("grant", "east", ((2, 0), (2, 1)), "ann")
WEST = ("grant", "west", ((0, 0), (0, 1)), "ann")
MID = ("grant", "mid", ((1, 0), (1, 1)), "carl")
SHARED = ("give", "east", "ann", "bob", (2, 3))


class Asking(unittest.TestCase):
    def test_at_first(self):
        land = land_of()
        self.assertEqual(land.plan(), PLAN)
        self.assertEqual(land.giver(), "king")
        self.assertEqual((land.lots(), land.ways()), ({}, {}))
        self.assertIsNone(land.lot_at((0, 0)))

    def test_lots_and_ways_by_rising_names(self):
        land = land_of(WEST, EAST, MID, ("way", "top", ((0, 1),)), ("way", "low", ((0, 0), (1, 0))))
        self.assertEqual(list(land.lots()), ["east", "mid", "west"])
        self.assertEqual(land.lots()["east"], (((2, 0), (2, 1)), ANN, ()))
        self.assertEqual(list(land.ways().items()), [("low", ((0, 0), (1, 0))), ("top", ((0, 1),))])

    def test_new_dicts_each_time(self):
        land = land_of(EAST, ("way", "top", ((2, 1),)))
        lots, ways = land.lots(), land.ways()
        self.assertIs(type(lots), dict)
        self.assertIs(type(ways), dict)
        lots.clear()
        ways["low"] = None
        self.assertEqual(list(land.lots()), ["east"])
        self.assertEqual(land.ways(), {"top": ((2, 1),)})

    def test_lot(self):
        land = land_of(EAST, SHARED, ("burden", "east", "rent", "dan"))
        self.assertEqual(land.lot("east"), (((2, 0), (2, 1)), THIRDS, (("rent", "dan"),)))
        self.assertIs(type(land.lot("east")), tuple)

    def test_no_lot(self):
        land = land_of(EAST, WEST, MID, ("way", "top", ((2, 1),)), ("split", "mid", "low", ((1, 0),)), ("join", "mid", "low"))
        for thing in [*anything(), "top", "low", "eas", "ann", "king", ["east"], ("east",)]:
            with self.subTest(thing=thing):
                with self.assertRaises(NoLot) as caught:
                    land.lot(thing)
                self.assertIs(caught.exception.name, thing)

    def test_lot_at(self):
        land = land_of(EAST, MID)
        told = {cell: land.lot_at(cell) for cell in PLAN.cells()}
        self.assertEqual(told, {(0, 0): None, (0, 1): None, (1, 0): "mid", (1, 1): "mid", (2, 0): "east", (2, 1): "east"})

    def test_lot_at_of_anything(self):
        land = land_of(("grant", "all", PLAN.cells(), "ann"))
        for thing in [*anything(), (3, 0), (0, 2), (-1, 0), (True, 0), (0, False), (True, True), [0, 0], (0,), (0, 0, 0),
                      "00", ("0", "0"), {0: 0}, ((0, 0),), (0, None), "all"]:
            if thing != (0, 0) or isinstance(thing[0], bool) or isinstance(thing[1], bool):
                with self.subTest(thing=thing):
                    self.assertIsNone(land.lot_at(thing))

    def test_by_names_in_any_order(self):
        land = Land(giver="king", plan=PLAN)
        self.assertEqual(land.needed(deed=EAST), ("king",))
        self.assertIsNone(land.do(deed=EAST))
        self.assertEqual(land.lot(name="east"), (((2, 0), (2, 1)), ANN, ()))
        self.assertEqual(land.lot_at(cell=(2, 0)), "east")


class Deeds(unittest.TestCase):
    def does(self, land, deed, needed):
        """A deed can be done, needs just these, and tells nothing when it is done."""
        self.assertEqual(land.needed(deed), needed)
        self.assertIs(type(land.needed(deed)), tuple)
        self.assertIsNone(land.do(deed))

    def refuses(self, land, *deeds):
        """Each deed can't be done, and leaves all as it was."""
        kept = land.twin()
        for deed in deeds:
            with self.subTest(deed=deed):
                self.assertIsNone(land.needed(deed))
                self.assertRaises(NoDeed, land.do, deed)
                self.assertEqual(land, kept)
                self.assertEqual((land.lots(), land.ways()), (kept.lots(), kept.ways()))

    def test_no_deed(self):
        land = land_of(EAST)
        kept = land.twin()
        for thing in [*anything(), list(EAST), ("grant", "west", ((7, 0),), "ann"), ("close", "Lane"), ("free", "east"),
                      ("grant", "west", ((0, 1), (0, 0)), "ann"), "close lane", nested(list, 3)]:
            with self.subTest(thing=thing):
                self.assertRaises(NoDeed, land.needed, thing)
                self.assertRaises(NoDeed, land.do, thing)
                self.assertRaises(LotError, land.do, thing)
                self.assertEqual(land, kept)

    def test_grant(self):
        land = land_of()
        self.does(land, EAST, ("king",))
        self.assertEqual(land.lots(), {"east": (((2, 0), (2, 1)), ANN, ())})
        self.does(land, ("grant", "low", ((0, 0), (1, 0)), "king"), ("king",))
        self.assertEqual(land.lot("low"), (((0, 0), (1, 0)), (("king", (1, 1)),), ()))

    def test_grant_refused(self):
        land = land_of(EAST)
        self.refuses(
            land,
            ("grant", "west", ((0, 0), (1, 1)), "ann"),
            ("grant", "west", ((0, 0), (0, 1), (0, 2)), "ann"),
            ("grant", "west", ((3, 0),), "ann"),
            ("grant", "west", ((1, 0), (2, 0)), "ann"),
            ("grant", "west", ((2, 1),), "ann"),
            ("grant", "west", PLAN.cells(), "ann"),
            ("grant", "east", ((0, 0),), "ann"),
            EAST,
        )

    def test_grant_of_a_name_that_was_a_lots(self):
        land = land_of(EAST, ("split", "east", "new", ((2, 1),)), ("join", "east", "new"))
        self.refuses(land, ("grant", "new", ((0, 0),), "ann"), ("grant", "east", ((0, 0),), "ann"))
        land = land_of(EAST, ("split", "east", "new", ((2, 1),)), ("join", "new", "east"))
        self.refuses(land, ("grant", "east", ((0, 0),), "ann"))
        self.assertEqual(land.lot("new"), (((2, 0), (2, 1)), ANN, ()))

    def test_a_ways_name_may_be_a_lots(self):
        land = land_of(EAST, ("way", "lane", ((2, 0),)))
        self.does(land, ("grant", "lane", ((0, 0),), "ann"), ("king",))
        self.does(land, ("way", "east", ((2, 0),)), ("ann",))

    def test_give(self):
        land = land_of(EAST)
        self.does(land, ("give", "east", "ann", "bob", (2, 3)), ("ann",))
        self.assertEqual(land.lot("east")[1], THIRDS)
        self.does(land, ("give", "east", "bob", "ann", (1, 3)), ("bob",))
        self.assertEqual(land.lot("east")[1], (("ann", (2, 3)), ("bob", (1, 3))))
        self.does(land, ("give", "east", "bob", "carl", (1, 3)), ("bob",))
        self.assertEqual(land.lot("east")[1], (("ann", (2, 3)), ("carl", (1, 3))))

    def test_give_leaves_the_rest(self):
        land = land_of(EAST, ("burden", "east", "rent", "dan"), WEST)
        self.does(land, SHARED, ("ann",))
        self.assertEqual(land.lot("east"), (((2, 0), (2, 1)), THIRDS, (("rent", "dan"),)))
        self.assertEqual(land.lot("west"), (((0, 0), (0, 1)), ANN, ()))

    def test_give_refused(self):
        land = land_of(EAST, SHARED)
        self.refuses(
            land,
            ("give", "west", "ann", "bob", (1, 3)),
            ("give", "east", "ann", "bob", (1, 2)),
            ("give", "east", "ann", "ann", (1, 3)),
            ("give", "east", "carl", "ann", (1, 3)),
            ("give", "east", "king", "ann", (1, 3)),
            ("give", "east", "bob", "carl", (1, 1)),
        )

    def test_give_to_no_thirteenth(self):
        land = land_of(EAST)
        for name in "abcdefghijk":
            land.do(("give", "east", "ann", name, (1, 13)))
        self.refuses(land, ("give", "east", "ann", "l", (1, 13)), ("give", "east", "a", "l", (1, 26)))
        self.does(land, ("give", "east", "ann", "l", (2, 13)), ("ann",))

    def test_split(self):
        land = land_of(EAST, SHARED, ("burden", "east", "rent", "dan"))
        self.does(land, ("split", "east", "new", ((2, 1),)), ("ann", "bob"))
        self.assertEqual(land.lots(), {
            "east": (((2, 0),), THIRDS, (("rent", "dan"),)), "new": (((2, 1),), THIRDS, (("rent", "dan"),)),
        })
        self.does(land, ("give", "new", "bob", "ann", (2, 3)), ("bob",))
        self.assertEqual((land.lot("east")[1], land.lot("new")[1]), (THIRDS, ANN))

    def test_split_refused(self):
        land = land_of(("grant", "all", PLAN.cells()[:-1], "ann"))
        self.assertEqual(len(land.lot("all")[0]), 5)
        self.refuses(
            land,
            ("split", "none", "new", ((0, 0),)),
            ("split", "all", "all", ((0, 0),)),
            ("split", "all", "new", PLAN.cells()[:-1]),
            ("split", "all", "new", PLAN.cells()),
            ("split", "all", "new", ((2, 1),)),
            ("split", "all", "new", ((2, 0), (2, 1))),
            ("split", "all", "new", ((6, 6),)),
            ("split", "all", "new", ((0, 0), (1, 1))),
            ("split", "all", "new", ((1, 0),)),
            ("split", "all", "new", ((1, 0), (1, 1))),
            ("split", "all", "new", ((0, 0), (2, 0))),
        )
        self.does(land, ("split", "all", "new", ((1, 1),)), ("ann",))
        self.does(land, ("split", "all", "other", ((2, 0),)), ("ann",))
        self.refuses(land, ("split", "all", "new", ((0, 0),)), ("split", "new", "newer", ((1, 1),)))
        land.do(("join", "all", "new"))
        self.refuses(land, ("split", "all", "new", ((1, 1),)))

    def test_join(self):
        land = land_of(EAST, SHARED, ("burden", "east", "rent", "dan"), ("split", "east", "new", ((2, 1),)))
        self.does(land, ("join", "new", "east"), ("ann", "bob"))
        self.assertEqual(land.lots(), {"new": (((2, 0), (2, 1)), THIRDS, (("rent", "dan"),))})
        self.assertEqual(land.lot_at((2, 0)), "new")

    def test_join_of_lots_that_were_granted(self):
        land = land_of(EAST, ("grant", "mid", ((1, 0), (1, 1)), "ann"))
        self.does(land, ("join", "mid", "east"), ("ann",))
        self.assertEqual(land.lot("mid"), (((1, 0), (1, 1), (2, 0), (2, 1)), ANN, ()))

    def test_join_refused(self):
        land = land_of(EAST, WEST, MID, ("split", "east", "new", ((2, 1),)))
        self.refuses(
            land,
            ("join", "east", "east"), ("join", "east", "none"), ("join", "none", "east"), ("join", "none", "none"),
            ("join", "east", "west"), ("join", "east", "mid"), ("join", "mid", "west"),
        )
        self.does(land, ("give", "new", "ann", "bob", (1, 2)), ("ann",))
        self.refuses(land, ("join", "east", "new"))
        self.does(land, ("give", "east", "ann", "bob", (1, 3)), ("ann",))
        self.refuses(land, ("join", "east", "new"), ("join", "new", "east"))
        self.does(land, ("give", "east", "ann", "bob", (1, 6)), ("ann",))
        self.does(land, ("join", "east", "new"), ("ann", "bob"))
        self.refuses(land, ("join", "east", "new"))

    def test_join_of_unlike_burdens(self):
        rent, toll = ("rent", "dan"), ("toll", "eve")
        split = ("split", "east", "new", ((2, 1),))
        land = land_of(EAST, split, ("burden", "east", *rent))
        self.refuses(land, ("join", "east", "new"), ("join", "new", "east"))
        land.do(("burden", "new", *toll))
        self.refuses(land, ("join", "east", "new"))
        land.do(("burden", "new", *rent))
        land.do(("burden", "east", *toll))
        self.assertEqual(land.lot("east")[2], (rent, toll))
        self.assertEqual(land.lot("new")[2], (toll, rent))
        self.refuses(land, ("join", "east", "new"))
        land.do(("free", "new", "toll"))
        land.do(("burden", "new", *toll))
        self.does(land, ("join", "east", "new"), ("ann",))
        self.assertEqual(land.lot("east"), (((2, 0), (2, 1)), ANN, (rent, toll)))
        land = land_of(EAST, split, ("burden", "east", *rent), ("burden", "new", "rent", "eve"))
        self.refuses(land, ("join", "east", "new"))

    def test_burden(self):
        land = land_of(EAST, SHARED)
        self.does(land, ("burden", "east", "toll", "eve"), ("ann", "bob"))
        self.does(land, ("burden", "east", "rent", "dan"), ("ann", "bob"))
        self.does(land, ("burden", "east", "alms", "eve"), ("ann", "bob"))
        self.assertEqual(land.lot("east")[2], (("toll", "eve"), ("rent", "dan"), ("alms", "eve")))
        self.assertEqual(land.lot("east")[:2], (((2, 0), (2, 1)), THIRDS))

    def test_burden_refused(self):
        land = land_of(EAST, ("burden", "east", "rent", "dan"), ("burden", "east", "toll", "eve"))
        self.refuses(
            land,
            ("burden", "west", "rent", "dan"), ("burden", "east", "rent", "dan"), ("burden", "east", "rent", "eve"),
            ("burden", "east", "toll", "ann"),
        )
        land.do(("free", "east", "rent"))
        self.does(land, ("burden", "east", "rent", "eve"), ("ann",))
        self.assertEqual(land.lot("east")[2], (("toll", "eve"), ("rent", "eve")))

    def test_free(self):
        land = land_of(EAST, *[("burden", "east", title, holder) for title, holder in
                               [("rent", "dan"), ("toll", "eve"), ("alms", "ann")]])
        self.does(land, ("free", "east", "toll"), ("eve",))
        self.assertEqual(land.lot("east")[2], (("rent", "dan"), ("alms", "ann")))
        self.does(land, ("free", "east", "rent"), ("dan",))
        self.does(land, ("free", "east", "alms"), ("ann",))
        self.assertEqual(land.lot("east"), (((2, 0), (2, 1)), ANN, ()))

    def test_free_refused(self):
        land = land_of(EAST, WEST, ("burden", "east", "rent", "dan"))
        self.refuses(land, ("free", "east", "toll"), ("free", "west", "rent"), ("free", "none", "rent"), ("free", "east", "dan"))
        land.do(("free", "east", "rent"))
        self.refuses(land, ("free", "east", "rent"))

    def test_way_over_several_lots(self):
        land = land_of(EAST, SHARED, MID, WEST)
        self.does(land, ("way", "lane", ((0, 0), (1, 0), (2, 0))), ("ann", "bob", "carl"))
        self.does(land, ("way", "path", ((0, 0),)), ("ann",))
        self.does(land, ("way", "road", ((1, 0), (1, 1))), ("carl",))
        self.assertEqual(land.ways(), {
            "lane": ((0, 0), (1, 0), (2, 0)), "path": ((0, 0),), "road": ((1, 0), (1, 1)),
        })
        self.assertEqual(land.lot("west"), (((0, 0), (0, 1)), ANN, ()))

    def test_way_refused(self):
        land = land_of(EAST, WEST, ("way", "lane", ((2, 0),)), ("way", "path", ((2, 0),)), ("close", "path"))
        self.refuses(
            land,
            ("way", "new", ((1, 0),)), ("way", "new", ((1, 0), (2, 0))), ("way", "new", ((0, 0), (2, 0))),
            ("way", "new", ((2, 1), (2, 2))), ("way", "new", ((6, 6),)), ("way", "new", PLAN.cells()),
            ("way", "lane", ((0, 0),)), ("way", "lane", ((2, 0),)), ("way", "path", ((2, 0),)),
        )

    def test_close_needs_those_who_hold_the_cells_now(self):
        land = land_of(EAST, MID, ("way", "lane", ((1, 0), (2, 0))))
        self.assertEqual(land.needed(("close", "lane")), ("ann", "carl"))
        land.do(("give", "mid", "carl", "dan", (1, 2)))
        self.assertEqual(land.needed(("close", "lane")), ("ann", "carl", "dan"))
        land.do(("split", "east", "new", ((2, 0),)))
        land.do(("give", "new", "ann", "eve", (1, 1)))
        self.assertEqual(land.needed(("close", "lane")), ("carl", "dan", "eve"))
        self.does(land, ("close", "lane"), ("carl", "dan", "eve"))
        self.assertEqual(land.ways(), {})
        self.refuses(land, ("close", "lane"), ("way", "lane", ((1, 0),)), ("close", "none"), ("close", "east"))

    def test_ways_stay_through_splits_and_joins(self):
        land = land_of(EAST, ("way", "lane", ((2, 0), (2, 1))), ("split", "east", "new", ((2, 1),)), ("join", "new", "east"))
        self.assertEqual(land.ways(), {"lane": ((2, 0), (2, 1))})
        self.does(land, ("close", "lane"), ("ann",))

    def test_a_deed_that_was_asked_for_is_not_done(self):
        land = land_of(EAST)
        kept = land.twin()
        for deed in [WEST, SHARED, ("split", "east", "new", ((2, 1),)), ("burden", "east", "rent", "dan"),
                     ("way", "lane", ((2, 0),))]:
            self.assertIsNotNone(land.needed(deed))
            self.assertEqual(land, kept)


class Twins(unittest.TestCase):
    def test_they_go_their_own_ways(self):
        land = land_of(EAST, ("way", "lane", ((2, 0),)))
        other = land.twin()
        self.assertIs(type(other), Land)
        self.assertEqual(other, land)
        other.do(WEST)
        other.do(("close", "lane"))
        self.assertEqual(land.needed(WEST), ("king",))
        self.assertEqual((list(land.lots()), list(land.ways())), (["east"], ["lane"]))
        land.do(MID)
        self.assertEqual(list(other.lots()), ["east", "west"])
        self.assertIsNone(other.lot_at((1, 0)))
        self.assertNotEqual(land, other)

    def test_a_twin_knows_the_names_that_were(self):
        land = land_of(EAST, ("split", "east", "new", ((2, 1),)), ("join", "east", "new"), ("way", "lane", ((2, 0),)),
                       ("close", "lane"))
        other = land.twin()
        self.assertIsNone(other.needed(("grant", "new", ((0, 0),), "ann")))
        self.assertIsNone(other.needed(("way", "lane", ((2, 0),))))
        other.do(("way", "path", ((2, 0),)))
        other.do(("close", "path"))
        self.assertIsNotNone(land.needed(("way", "path", ((2, 0),))))

    def test_equal(self):
        self.assertTrue(land_of() == Land(Plan(list("abcd"), list("efg")), "king"))
        self.assertTrue(land_of(EAST, WEST) == land_of(WEST, EAST))
        self.assertTrue(land_of(EAST, WEST, ("way", "p", ((2, 0),)), ("way", "q", ((2, 0),)))
                        == land_of(WEST, EAST, ("way", "q", ((2, 0),)), ("way", "p", ((2, 0),))))
        self.assertFalse(land_of(EAST) != land_of(EAST))

    def test_unlike(self):
        land = land_of(EAST)
        split = ("split", "east", "new", ((2, 1),))
        other_split = ("split", "east", "other", ((2, 1),))
        for other in [
            land_of(), land_of(EAST, WEST), land_of(("grant", "east", ((2, 0),), "ann")), land_of(EAST, SHARED),
            land_of(("grant", "west", ((2, 0), (2, 1)), "ann")), land_of(EAST, ("burden", "east", "rent", "dan")),
            land_of(EAST, ("way", "lane", ((2, 0),))), land_of(EAST, ("way", "lane", ((2, 0),)), ("close", "lane")),
            land_of(EAST, split, ("join", "east", "new")), Land(PLAN, "king"), Land(PLAN, "ann"),
        ]:
            self.assertTrue(land != other)
            self.assertFalse(land == other)
        self.assertFalse(land_of(EAST, split, ("join", "east", "new")) == land_of(EAST, other_split, ("join", "east", "other")))
        lane = ("way", "lane", ((2, 0),))
        self.assertFalse(land_of(EAST, lane) == land_of(EAST, lane, ("close", "lane")))
        self.assertFalse(land_of(EAST, lane) == land_of(EAST, ("way", "lane", ((2, 1),))))
        self.assertFalse(Land(PLAN, "king") == Land(PLAN, "ann"))
        self.assertFalse(Land(PLAN, "king") == Land(Plan(list("abcd"), list("gfe")), "king"))
        for thing in [*anything(), PLAN]:
            self.assertFalse(land == thing)


def some_deed(chance):
    """A deed of a few names and small regions, which often can be done."""
    lots, people = "lmnop", ["ann", "bob", "carl"]
    cells = tuple(sorted(chance.sample(PLAN.cells(), chance.randrange(1, 4))))
    lot, other = chance.choice(lots), chance.choice(lots)
    one, two = chance.choice(people), chance.choice(people)
    return chance.choice([
        ("grant", lot, cells, one), ("give", lot, one, two, chance.choice([(1, 2), (1, 3), (1, 1)])),
        ("split", lot, other, cells), ("split", lot, other, cells[:1]), ("join", lot, other), ("join", other, lot),
        ("burden", lot, chance.choice("xy"), one), ("free", lot, chance.choice("xy")),
        ("way", chance.choice("vw"), cells), ("close", chance.choice("vw")),
    ])


class Ever(unittest.TestCase):
    def test_each_deed_leaves_the_land_whole(self):
        done = {}
        for seed in range(300):
            chance = random.Random(seed)
            land = Land(PLAN, "king")
            for _ in range(60):
                deed = some_deed(chance)
                kept = land.twin()
                needed = land.needed(deed)
                if needed is None:
                    self.assertRaises(NoDeed, land.do, deed)
                    self.assertEqual(land, kept)
                else:
                    self.assertEqual(list(needed), sorted(set(needed)))
                    land.do(deed)
                    done[deed[0]] = done.get(deed[0], 0) + 1
                    self.is_whole(land)
                    self.keeps(kept, land, deed)
        self.assertEqual(len(done), 8)
        self.assertGreater(min(done.values()), 10)

    def is_whole(self, land):
        cells = [cell for lot in land.lots().values() for cell in lot[0]]
        self.assertEqual(len(cells), len(set(cells)))
        for name, (cells, holding, burdens) in land.lots().items():
            self.assertIs(is_piece(PLAN, cells), True)
            self.assertIs(is_holding(holding), True)
            self.assertEqual(len(dict(burdens)), len(burdens))
            self.assertEqual({land.lot_at(cell) for cell in cells}, {name})
        for cells in land.ways().values():
            self.assertTrue(all(land.lot_at(cell) is not None for cell in cells))

    def keeps(self, before, land, deed):
        """What each cell has of holdings and burdens stays with it through splits and joins; ways stay, too."""
        for cell in PLAN.cells():
            if before.lot_at(cell) is not None:
                self.assertIsNotNone(land.lot_at(cell))
                was, now = before.lot(before.lot_at(cell)), land.lot(land.lot_at(cell))
                if deed[0] not in ("give", "burden", "free"):
                    self.assertEqual(now[1:], was[1:])
        if deed[0] not in ("way", "close"):
            self.assertEqual(land.ways(), before.ways())
        else:
            self.assertEqual(land.lots(), before.lots())


if __name__ == "__main__":
    unittest.main()
