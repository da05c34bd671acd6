"""Points [2] and [3] over the whole program: houses on small plans, held against plain reckoning."""

import inspect
import itertools
import random
import unittest

from lothouse import answers, books, cells, deeds, desk, houses, judging, land, mail, nets, plans, points, sheets, slips, titles
from lothouse.answers import is_whose
from lothouse.books import Book
from lothouse.borders import between, inside, ring_sides, rings, sides
from lothouse.cells import is_piece, pieces
from lothouse.errors import LotError
from lothouse.houses import House
from lothouse.judging import judged, kept
from lothouse.nets import Net
from lothouse.points import lies
from lothouse.shares import is_holding
from lothouse.sheets import above, beside, lined, sheet
from lothouse.slips import sealed
from lothouse.titles import regained, title
from tests.digests import digest
from tests.grounds import FAR, SMALL, grounds, some_sights
from tests.histories import KEYS, PLAN, history
from tests.test_mail import state
from tests.things import anything


def house_of(seed, plan=SMALL, many=10):
    """A house of a small plan, with a few sights, of whose offices the first heard a history."""
    house = House(plan, "king", KEYS, digest)
    if plan == SMALL:
        for sight in some_sights(seed, seed % 5).values():
            house.sight(sight)
    for slip in history(seed, many, plan):
        house.bring(0, slip)
    return house


class Answers(unittest.TestCase):
    def test_whose_a_point_is_in_all_grounds(self):
        """(a): as one lot's, or as open, never both; or a ring where there is no ground."""
        met = {}
        for seed in range(60):
            house, chance = house_of(seed), random.Random(seed)
            near = grounds(SMALL, house.net().sights().values())
            book = house.mail().book(0)
            for _ in range(12):
                point = ((chance.choice("abc"), chance.randrange(-4, 5)), (chance.choice("de"), chance.randrange(-3, 4)))
                day = chance.choice([60, 60, chance.randrange(61)])
                on = book.land(day)
                answer = house.ask(point, day=day)
                lots = {on.lot_at(lies(SMALL, ground, point)) for ground in near}
                self.assertEqual(answer[0], "none" if not lots else "one" if len(lots) == 1 else "open")
                self.assertIs(is_whose(house.net(), on, point, answer), True)
                if answer[0] == "one":
                    self.assertEqual({answer[1]}, lots)
                    self.assertEqual(answer[3], () if answer[1] is None else title(book, answer[1], day))
                if answer[0] == "open":
                    self.assertEqual(answer[2::2], tuple([on.lot_at(lies(SMALL, ground, point)) for ground in answer[1::2]]))
                    self.assertNotEqual(answer[2], answer[4])
                if answer[0] == "none":
                    self.assertIs(house.net().is_ring(answer[1]), True)
                met[answer[0]] = met.get(answer[0], 0) + 1
        self.assertGreater(min(met["one"], met["open"], met["none"]), 30)

    def test_the_least_and_the_greatest_distance(self):
        """(b): each with a way that comes to it, each reached by a ground."""
        for seed in range(60):
            house = house_of(seed, many=0)
            net = house.net()
            near = grounds(SMALL, net.sights().values())
            self.assertEqual(net.ring() is None, len(near) > 0)
            for one, other in [*itertools.product("abc", repeat=2), *itertools.product("de", repeat=2)] if near else []:
                least, most, back, way = house.far(one, other)
                distances = [ground[other] - ground[one] for ground in near]
                for told, limit, start, end, led in [(most, max(distances), one, other, way), (least, min(distances), other, one, back)]:
                    if told is None:
                        self.assertIsNone(led)
                        self.assertGreater(abs(limit), FAR - 8)
                    else:
                        self.assertEqual(told, limit)
                        self.assertIs(net.is_way(start, end, led), True)
                        self.assertEqual(net.worth(led), told if led is way else -told)
                        self.assertIsNotNone(net.ground(more=[(one, other, told, told)]) if one != other else net.ground())


class Lands(unittest.TestCase):
    def test_each_day_the_land_is_whole(self):
        """(c): no cell is two lots', each lot is a piece, its shares are one whole; (f): titles give the lots again."""
        lots = 0
        for seed in range(25):
            book = house_of(seed, PLAN, 25).mail().book(0)
            for day in (10, 30, 60):
                told = book.land(day)
                parts = [cell for lot in told.lots().values() for cell in lot[0]]
                self.assertEqual(len(parts), len(set(parts)))
                for name, lot in told.lots().items():
                    self.assertEqual(pieces(lot[0]), [lot[0]])
                    self.assertIs(is_piece(PLAN, lot[0]) and is_holding(lot[1]), True)
                    self.assertEqual(regained(book, title(book, name, day)).lot(name), lot)
                    lots += 1
                for way in told.ways().values():
                    self.assertTrue(set(way) <= set(parts))
        self.assertGreater(lots, 100)

    def test_the_book_of_a_day_hangs_on_the_set_of_slips(self):
        """(d): whatever order they are heard in, and how often; a slip more changes just what its ripple tells."""
        for seed in range(25):
            heard = history(seed, 14)
            chance = random.Random(seed)
            made = []
            for turn in range(3):
                book = Book(PLAN, "king", KEYS, digest)
                for slip in chance.sample(heard, len(heard)) + chance.choices(heard, k=turn * 4):
                    book.hear(slip)
                made.append(book)
            for book in made[1:]:
                self.assertEqual(book, made[0])
                self.assertEqual([book.words(day) for day in (9, 60)], [made[0].words(day) for day in (9, 60)])
                self.assertEqual([book.land(day) for day in (9, 60)], [made[0].land(day) for day in (9, 60)])

    def test_no_deed_is_done_without_the_seals_of_all_whom_it_needs(self):
        """(d): of each done deed one seal is made false: it is done no more."""
        tried = 0
        for seed in range(15):
            heard = history(seed, 14)
            book = Book(PLAN, "king", KEYS, digest)
            for slip in heard:
                book.hear(slip)
            for slip in [slip for slip in heard if book.words(60)[slip[1:3]] == "done"]:
                for name, _ in slip[5]:
                    other = Book(PLAN, "king", KEYS, digest)
                    for heard_slip in heard:
                        other.hear(sealed(slip, name, "wrong", digest) if heard_slip == slip else heard_slip)
                    self.assertEqual(other.words(60)[slip[1:3]], "unsealed")
                    tried += 1
        self.assertGreater(tried, 50)

    def test_borders_go_round_each_lot(self):
        """(g): each side once, the inside on the left; and the rings tell the region again."""
        for seed in range(25):
            lots = house_of(seed, PLAN, 20).mail().book(0).land(60).lots()
            for name, (region, _, _) in lots.items():
                told = rings(region)
                self.assertEqual(sorted([side for ring in told for side in ring_sides(ring)]), sides(region))
                self.assertEqual(inside(told), region)
                for other, (beyond, _, _) in lots.items():
                    if other != name:
                        self.assertEqual({frozenset(side) for side in between(region, beyond)},
                                         {frozenset(side) for side in between(beyond, region)})

    def test_sheets_side_by_side_are_one_sheet(self):
        """(g): at each scale; and each border on it is one."""
        for seed in range(15):
            on = house_of(seed, PLAN, 20).mail().book(0).land(60)
            for scale in range(1, 8):
                columns, rows = -(-3 // scale), -(-2 // scale)
                whole = sheet(on, ((0, columns - 1), (0, rows - 1)), scale=scale)
                for cut in range(1, columns):
                    parts = [sheet(on, (span, (0, rows - 1)), scale=scale) for span in ((0, cut - 1), (cut, columns - 1))]
                    self.assertEqual(beside(*parts), whole)
                for cut in range(1, rows):
                    parts = [sheet(on, ((0, columns - 1), span), scale=scale) for span in ((cut, rows - 1), (0, cut - 1))]
                    self.assertEqual(above(*parts), whole)
                borders = {frozenset(side) for region, _, _ in on.lots().values() for side in sides(region)}
                told = {frozenset(side) for side in lined(on, ((0, columns - 1), (0, rows - 1)), scale=scale)}
                self.assertTrue(told <= borders)


class Offices(unittest.TestCase):
    def test_all_offices_come_to_the_same_books(self):
        """(e): behind three rounds of fair sending, whatever was heard where, and lost and kept between."""
        for seed in range(20):
            chance = random.Random(seed)
            house = House(PLAN, "king", KEYS, digest)
            heard = history(seed, 14)
            for slip in heard:
                for office in chance.sample(range(3), chance.randrange(1, 4)):
                    house.bring(office, slip)
            ends = list(itertools.permutations(range(3), 2))
            for one, other in chance.choices(ends, k=30):
                house.send(one, other)
                if chance.random() < 0.4:
                    house.come(one, other, kept=chance.random() < 0.5)
                elif chance.random() < 0.5:
                    house.lose(one, other)
            for _ in range(3):
                for two in ends:
                    house.send(*two)
                for two in ends:
                    while house.mail().under_way(*two):
                        house.come(*two)
            book = house.mail().book(0)
            self.assertEqual({len(book.slips())}, {len(set(heard))})
            for office in (1, 2):
                self.assertEqual(house.mail().book(office), book)
                self.assertEqual(house.mail().book(office).words(60), book.words(60))


class Judged(unittest.TestCase):
    def test_the_first_row_that_is_not_so(self):
        """(h): from the record alone, of what one office after another was told."""
        for seed in range(12):
            house, chance = house_of(seed, PLAN, 12), random.Random(seed)
            for sight in [("a", "b", 1, 4), ("c", "d", 2, None), ("f", "e", -3, None)][:seed % 4]:
                house.sight(sight)
            head, rows = kept(house, 0)
            point = ((chance.choice("abcd"), chance.randrange(-2, 5)), (chance.choice("efg"), chance.randrange(-2, 3)))
            told = [("asked", point, 60, house.ask(point)), ("far", "a", "d", house.far("a", "d")), ("far", "g", "e", house.far("g", "e"))]
            self.assertIsNone(judged((head, (*rows, *told)), digest))
            # Each thing told is so no more where a sight more, or another lot, makes it otherwise.
            least = house.far("a", "d")[0]
            tighter = ("sight", 200, ("a", "d", least + 1, None))
            self.assertEqual(judged((head, (*rows, tighter, *told[1:])), digest), len(rows) + 1)
            self.assertEqual(judged((head, (*rows, *told[2:], tighter, *told[1:])), digest), len(rows) + 2)


class Refused(unittest.TestCase):
    def test_what_is_refused_leaves_all_as_it_was(self):
        """(i): of anything in any place of each deed."""
        house = house_of(3, PLAN, 8)
        house.sight(("a", "b", 3, 5))
        house.send(0, 1)
        calls = [(house.sight, 1, ()), (house.strike, 1, ()), (house.bring, 2, ()), (house.send, 2, ()), (house.come, 2, ("at",)),
                 (house.lose, 2, ("at",)), (house.far, 2, ()), (house.ask, 1, ("office", "day"))]
        before, refused = (house.net().sights(), state(house.mail())), 0
        for thing in [thing for thing in anything() if not isinstance(thing, int) or isinstance(thing, bool) or abs(thing) > 2]:
            text = repr(thing)
            for call, places, names in calls:
                for k in range(places):
                    parts = [0, 1][:places]
                    parts[k] = thing
                    refused += self.refuses(call, parts, {})
                for name in names:
                    first = [(("a", 0), ("e", 0))] if places == 1 else [0, 1]
                    refused += self.refuses(call, first, {name: thing})
            self.assertEqual(repr(thing), text)
        self.assertGreater(refused, 300)
        self.assertEqual((house.net().sights(), state(house.mail())), before)
        self.assertIs(house.busy(), False)

    def refuses(self, call, parts, names):
        with self.assertRaises(LotError):
            call(*parts, **names)
        return 1


class Arguments(unittest.TestCase):
    def test_names_alone_behind_a_star(self):
        """[3]: what stands behind a star goes by name alone, with the defaults that are told."""
        for asked, told in [(mail.Mail.__init__, {"offices": 3}), (houses.House.__init__, {"offices": 3}),
                            (mail.Mail.come, {"at": 0, "kept": False}), (houses.House.come, {"at": 0, "kept": False}),
                            (mail.Mail.lose, {"at": 0}), (houses.House.lose, {"at": 0}), (sheets.sheet, {"scale": 1}),
                            (sheets.lined, {"scale": 1}), (houses.House.ask, {"office": 0, "day": 60}), (nets.Net.ground, {"more": ()})]:
            parts = inspect.signature(asked).parameters.values()
            self.assertEqual({part.name: part.default for part in parts if part.kind == part.KEYWORD_ONLY}, told)
            self.assertEqual([part for part in parts if part.default is not part.empty and part.kind != part.KEYWORD_ONLY], [])

    def test_no_other_default(self):
        told = 0
        for module in (answers, books, cells, deeds, desk, judging, land, plans, points, slips, titles):
            for thing in vars(module).values():
                if inspect.isfunction(thing) and thing.__module__ == module.__name__ and not thing.__name__.startswith("_"):
                    kinds = {part.kind for part in inspect.signature(thing).parameters.values()}
                    self.assertEqual(kinds, {inspect.Parameter.POSITIONAL_OR_KEYWORD})
                    told += 1
        self.assertGreater(told, 20)

    def test_what_was_handed_in_may_change_later(self):
        """[3]: and what is told is the asker's own."""
        keys, uprights, known = dict(KEYS), list("abcd"), {4: ("a", "b", 3, 5)}
        plan = plans.Plan(uprights, ["e", "f", "g"])
        house, net = House(plan, "king", keys, digest), Net(plan, known)
        keys["king"] = "other"
        uprights.reverse()
        known.clear()
        house.bring(0, history(3, 8)[1])
        house.net().sights().clear()
        house.log().clear()
        house.mail().book(0).slips().clear()
        house.mail().book(0).known_keys().clear()
        house.mail().under_way(0, 1).append(None)
        self.assertEqual((plan.uprights(), net.sights()), (tuple("abcd"), {4: ("a", "b", 3, 5)}))
        self.assertEqual(house.mail().book(0).known_keys(), KEYS)
        self.assertEqual((house.log(), house.mail().under_way(0, 1)), ([("begin", 1), ("end", 1)], []))
        self.assertEqual(len(house.mail().book(0).slips()), 1)


if __name__ == "__main__":
    unittest.main()
