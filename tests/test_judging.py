"""Point [130]: records, and the judge; points [2] (h) and [3] as far as they speak of these."""

import functools
import random
import unittest

from lothouse.answers import is_whose, whose
from lothouse.books import Book
from lothouse.errors import NoLot, NoOffice
from lothouse.houses import House
from lothouse.judging import judged, kept
from lothouse.nets import Net
from lothouse.points import bounds, is_bounds
from lothouse.sights import is_sight
from lothouse.slips import is_slip
from lothouse.titles import title
from tests.digests import Broken, broken, digest, never
from tests.histories import KEYS, PLAN, history, slip_of
from tests.test_mail import is_office
from tests.test_points import NO_POINTS
from tests.test_slips import WRONG
from tests.things import anything, nested, spoilt

LEFT, MID, RIGHT = ((0, 0), (0, 1)), ((1, 0), (1, 1)), ((2, 0), (2, 1))
SLIPS = [
    slip_of("king", 1, 3, ("grant", "east", RIGHT, "ann"), "king"),
    slip_of("king", 2, 4, ("grant", "mid", MID, "ann"), "king"),
    slip_of("king", 3, 5, ("grant", "west", LEFT, "bob"), "king"),
    slip_of("ann", 1, 6, ("join", "east", "mid"), "ann"),
    slip_of("bob", 1, 7, ("burden", "west", "rent", "carl"), "bob"),
]
SIGHTS = {1: ("a", "b", 3, 5), 2: ("b", "c", 4, 4), 5: ("e", "g", 6, 9)}
HEAD = (tuple("abcd"), tuple("efg"), "king", tuple(sorted(KEYS.items())))
# In west; in west or east; in east, by bounds of two columns; nobody's.
WESTWARD, WAVERS, EASTWARD, BEYOND = (("a", 2), ("e", 0)), (("a", 4), ("e", 0)), (("b", 2), ("e", 0)), (("a", -1), ("e", 0))


def brought(numbers=tuple(SIGHTS), slips=tuple(SLIPS)):
    """The rows of these sights and slips."""
    return (*[("sight", number, SIGHTS[number]) for number in numbers], *[("slip", slip) for slip in slips])


def net_of(numbers=tuple(SIGHTS)):
    return Net(PLAN, {number: SIGHTS[number] for number in numbers})


def book_of(slips=tuple(SLIPS)):
    book = Book(PLAN, "king", KEYS, digest)
    for slip in slips:
        book.hear(slip)
    return book


def asked(point, day, net=None, book=None):
    """The row of a point that was asked for on that day."""
    net, book = net or net_of(), book or book_of()
    answer = whose(net, book.land(day), point)
    if answer[0] == "one" and answer[1] is not None:
        answer = (*answer[:3], title(book, answer[1], day))
    return "asked", point, day, answer


def far(one, other, net=None):
    """The row of how far the other line lies behind the one."""
    net = net or net_of()
    return "far", one, other, (net.least(one, other), net.most(one, other), net.way(other, one), net.way(one, other))


def titled(lot, day):
    """The row of a lot's title on that day."""
    return "title", lot, day, title(book_of(), lot, day)


TOLD = [
    asked(WESTWARD, 60), asked(WESTWARD, 5), asked(WESTWARD, 2), asked(WAVERS, 60), asked(EASTWARD, 60), asked(EASTWARD, 5),
    asked(BEYOND, 0), far("a", "c"), far("c", "a"), far("a", "d"), far("d", "b"), far("e", "f"), far("f", "f"),
    titled("east", 60), titled("east", 5), titled("mid", 4), titled("west", 60),
]


# The same marks are asked for again and again below.
kept_digest = functools.cache(digest)


def judge(*rows):
    """What is judged of a record of these rows."""
    return judged((HEAD, rows), kept_digest)


class Kept(unittest.TestCase):
    def house(self):
        house = House(PLAN, "king", KEYS, digest)
        for sight in [*SIGHTS.values(), ("a", "b", 9, 3)]:
            house.sight(sight)
        house.strike(4)
        house.strike(2)
        for slip in SLIPS:
            house.bring(0, slip)
        house.bring(2, SLIPS[3])
        house.bring(2, SLIPS[0])
        return house

    def test_of_each_office(self):
        house = self.house()
        sights = (("sight", 1, SIGHTS[1]), ("sight", 3, SIGHTS[5]))
        told = {0: [SLIPS[3], SLIPS[4], SLIPS[0], SLIPS[1], SLIPS[2]], 1: [], 2: [SLIPS[3], SLIPS[0]]}
        for office, slips in told.items():
            self.assertEqual(kept(house, office), (HEAD, (*sights, *[("slip", slip) for slip in slips])))
            self.assertIsNone(judged(kept(house, office), digest))

    def test_it_is_of_tuples(self):
        record = kept(self.house(), 0)
        self.assertEqual([type(part) for part in (record, *record, *record[0][:2], record[0][3])], [tuple] * 6)
        self.assertEqual(record[0][3], (("ann", "apple"), ("bob", "berry"), ("carl", "cherry"), ("king", "crown")))

    def test_of_a_house_without_anything(self):
        house = House(PLAN, "ann", {}, never, offices=2)
        self.assertEqual(kept(house, 1), ((tuple("abcd"), tuple("efg"), "ann", ()), ()))
        self.assertIsNone(judged(kept(house, 1), never))

    def test_no_office(self):
        house = self.house()
        for thing in [*anything(), 3, -1, "0"]:
            if not is_office(thing, 3):
                with self.subTest(thing=thing):
                    with self.assertRaises(NoOffice) as caught:
                        kept(house, thing)
                    self.assertIs(caught.exception.office, thing)

    def test_what_it_tells_is_let_by(self):
        for seed in range(20):
            chance = random.Random(seed)
            house = House(PLAN, "king", KEYS, digest)
            for number in range(1, 80):
                one, other = chance.sample(chance.choice(["abcd", "efg"]), 2)
                house.sight((one, other, chance.choice([None, -3, 1]), chance.randrange(2, 9)))
                if number > 20:
                    house.strike(chance.choice(list(house.net().sights())))
            for slip in history(seed, 10):
                house.bring(0, slip)
            self.assertIsNone(judged(kept(house, 0), digest))

    def test_nothing_is_changed(self):
        house = self.house()
        log = house.log()
        kept(house, 0)
        self.assertEqual(house.log(), log)

    def test_by_names_in_any_order(self):
        self.assertEqual(kept(office=0, house=self.house()), kept(self.house(), 0))
        self.assertIsNone(judged(digest=digest, record=kept(self.house(), 0)))


class Sound(unittest.TestCase):
    def test_each_row(self):
        for row in TOLD:
            with self.subTest(row=row):
                self.assertIsNone(judge(*brought(), row))
        self.assertEqual({row[3][0] for row in TOLD if row[0] == "asked"}, {"one", "open"})

    def test_all_rows(self):
        self.assertIsNone(judge())
        self.assertIsNone(judge(*brought(), *TOLD))
        self.assertIsNone(judge(*brought()[::-1], *TOLD[::-1]))

    def test_by_what_is_ahead(self):
        rows = [asked(WESTWARD, 60, net_of(()), book_of(())), ("sight", 2, SIGHTS[2]), far("b", "c", net_of([2])),
                ("slip", SLIPS[2]), ("slip", SLIPS[1]), ("sight", 1, SIGHTS[1]), far("a", "c", net_of([2, 1])),
                asked(WESTWARD, 60, net_of([1, 2]), book_of(SLIPS[1:3])), ("slip", SLIPS[0]),
                asked(WESTWARD, 60, net_of([1, 2]), book_of(SLIPS[:3])), ("strike", 2), far("a", "c", net_of([1])),
                ("slip", SLIPS[4]), ("slip", SLIPS[3]), ("title", "east", 60, title(book_of(), "east", 60)), ("strike", 1),
                asked(WESTWARD, 60, net_of(())), ("sight", 5, SIGHTS[5]), ("slip", SLIPS[3])]
        self.assertIsNone(judge(*rows))
        self.assertEqual(judge(*rows[:7], ("strike", 5), *rows[7:]), 7)
        self.assertEqual(judge(*rows[:-3], asked(WESTWARD, 60)), len(rows) - 3)

    def test_a_row_is_judged_by_what_is_ahead_alone(self):
        for row in TOLD[:2] + TOLD[7:9] + TOLD[13:14]:
            self.assertEqual(judge(row, *brought()), 0)
            self.assertEqual(judge(*brought()[:4], row, *brought()[4:]) is None, row[0] == "far")

    def test_where_there_is_no_ground(self):
        bad = ("sight", 9, ("a", "b", 6, 9))
        net = Net(PLAN, {**SIGHTS, 9: bad[2]})
        rows = (*brought(), bad)
        for point in (WESTWARD, BEYOND):
            self.assertIsNone(judge(*rows, asked(point, 60, net)))
            self.assertEqual(judge(*rows, asked(point, 60)), len(rows))
        self.assertEqual(judge(*rows, far("a", "c")), len(rows))
        self.assertEqual(judge(*rows, far("e", "f")), len(rows))
        self.assertEqual(judge(*rows, ("far", "f", "f", (0, 0, (), ()))), len(rows))
        self.assertIsNone(judge(*rows, ("strike", 9), far("a", "c"), asked(WESTWARD, 60)))
        self.assertEqual(judge(*rows, ("strike", 9), asked(WESTWARD, 60, net)), len(rows) + 1)

    def test_any_paper_that_holds(self):
        wide = ((0, 1), (0, 1), ((), ((2, "least"), (1, "least")), (), ((5, "least"),)))
        self.assertIs(is_bounds(net_of(), WESTWARD, wide), True)
        self.assertIsNone(judge(*brought(), ("asked", BEYOND, 60, ("one", None, bounds(net_of(), BEYOND), ()))))
        self.assertEqual(judge(*brought(), ("asked", WESTWARD, 60, ("one", "west", wide, titled("west", 60)[3]))), 8)
        self.assertIsNone(judge(*brought(), ("asked", WESTWARD, 2, ("one", None, wide, ()))))
        way = ((1, "most"), (0, "b"), (1, "most"), (2, "most"))
        self.assertEqual(net_of().worth(way), 13)
        self.assertEqual(judge(*brought(), ("far", "a", "c", (*far("a", "c")[3][:3], way))), 8)
        other = ((2, "most"), (2, "least"), (1, "least"), (1, "most"), (2, "most"))
        self.assertEqual(judge(*brought(), ("far", "a", "c", (*far("a", "c")[3][:3], other))), 8)
        longer = ((1, "most"), (2, "most"), (2, "least"), (2, "most"))
        self.assertEqual(net_of().worth(longer), 9)
        self.assertIsNone(judge(*brought(), ("far", "a", "c", (*far("a", "c")[3][:3], longer))))

    def test_a_slip_heard_twice(self):
        self.assertIsNone(judge(("slip", SLIPS[0]), ("slip", SLIPS[0])))


def plain(row, standing, ever, book):
    """Whether a row is so: by what other points promise, and by texts of what is to be the very same."""
    if not isinstance(row, tuple) or not row:
        return False
    word, *parts = row
    net = Net(PLAN, standing)
    if word == "sight" and len(parts) == 2:
        number = parts[0]
        fresh = isinstance(number, int) and not isinstance(number, bool) and 1 <= number <= 200 and number not in ever
        return fresh and len(standing) < 60 and is_sight(PLAN, parts[1])
    if word == "strike" and len(parts) == 1:
        return repr(parts[0]) in [repr(number) for number in standing]
    if word == "slip" and len(parts) == 1:
        return is_slip(parts[0])
    if len(parts) != 3:
        return False
    try:
        if word == "title":
            return repr(parts[2]) == repr(title(book, parts[0], parts[1]))
        if word == "asked":
            fine = is_whose(net, book.land(parts[1]), parts[0], parts[2])
            lot = parts[2][1] if fine and parts[2][0] == "one" else None
            pairs = () if lot is None else title(book, lot, parts[1])
            return fine and (parts[2][0] != "one" or repr(parts[2][3]) == repr(pairs))
        if word == "far":
            return plain_far(net, *parts)
    except ValueError:
        pass
    return False


def plain_far(net, one, other, answer):
    """Whether an answer of two lines is so."""
    least, most = net.least(one, other), net.most(one, other)
    if not isinstance(answer, tuple) or len(answer) != 4 or repr(answer[:2]) != repr((least, most)):
        return False
    for start, end, way, worth in [(other, one, answer[2], None if least is None else -least), (one, other, answer[3], most)]:
        if worth is None and way is not None:
            return False
        if worth is not None and not (net.is_way(start, end, way) and net.worth(way) == worth):
            return False
    return True


class Spoilt(unittest.TestCase):
    def test_each_row_told_spoilt_at_each_place(self):
        book, fine = book_of(), 0
        for row in [TOLD[k] for k in (0, 2, 3, 4, 7, 9, 12, 13, 15)]:
            for thing in spoilt(row):
                so = plain(thing, SIGHTS, SIGHTS, book)
                with self.subTest(thing=thing):
                    self.assertEqual(judge(*brought(), thing), None if so else 8)
                fine += so
        # A point or a line may be spoilt to one of which the same is told.
        self.assertLess(fine, 250)

    def test_each_row_brought_spoilt_at_each_place(self):
        rows = brought([1, 2], SLIPS[:2])
        for row in [("sight", 5, SIGHTS[5]), ("slip", SLIPS[3]), ("strike", 2)]:
            self.assertIsNone(judge(*rows, row))
            for thing in spoilt(row):
                so = plain(thing, {1: SIGHTS[1], 2: SIGHTS[2]}, {1: True, 2: True}, book_of(SLIPS[:2]))
                with self.subTest(thing=thing):
                    self.assertEqual(judge(*rows, thing), None if so else 4)

    def test_no_such_row(self):
        for thing in [*anything(), "sight", ("sigh", 7, SIGHTS[1]), ("strike",), ("slip",), ("asked", WESTWARD, 60),
                      ("grant", "east", RIGHT, "ann"), ("sight", 7), ("sight", 7, SIGHTS[1], None), ("strike", 1, 1),
                      ("slip", SLIPS[0], SLIPS[1]), ("SIGHT", 7, SIGHTS[1]), (("sight",), 7, SIGHTS[1]), (["sight"], 7, SIGHTS[1]),
                      ("asked", WESTWARD, 60, 0, TOLD[0][3]), ("title", "west", 60), ["strike", 1], (None, 1), ({}, 1)]:
            with self.subTest(thing=thing):
                self.assertEqual(judge(*brought(), thing), 8)
                self.assertEqual(judge(thing, *brought()), 0)

    def test_numbers_of_sights(self):
        first = ("sight", 7, SIGHTS[1])
        self.assertEqual(judge(first, first), 1)
        self.assertEqual(judge(first, ("sight", 7, SIGHTS[2])), 1)
        self.assertEqual(judge(first, ("strike", 7), first), 2)
        self.assertEqual(judge(first, ("strike", 7), ("strike", 7)), 2)
        self.assertIsNone(judge(first, ("strike", 7), ("sight", 8, SIGHTS[1]), ("sight", 6, SIGHTS[1]), ("strike", 6)))
        self.assertEqual(judge(("strike", 7), first), 0)
        for number in [1, 200]:
            self.assertIsNone(judge(("sight", number, SIGHTS[1])))
        for number in [*anything(), 0, -1, 201, 10 ** 39, True, "1", None, (1,)]:
            if not is_office(number, 201) or number == 0:
                self.assertEqual(judge(("sight", number, SIGHTS[1])), 0)
                self.assertEqual(judge(("sight", 1, SIGHTS[1]), ("strike", number)), 1)

    def test_at_most_sixty_stand(self):
        sixty = [("sight", number, SIGHTS[1]) for number in range(101, 161)]
        self.assertIsNone(judge(*sixty))
        self.assertEqual(judge(*sixty, ("sight", 1, SIGHTS[1])), 60)
        self.assertEqual(judge(*sixty, ("strike", 130), ("sight", 130, SIGHTS[1])), 61)
        self.assertIsNone(judge(*sixty, ("strike", 130), ("sight", 1, SIGHTS[2]), far("b", "c", Net(PLAN, {1: SIGHTS[2]}))))
        self.assertEqual(judge(*sixty, ("strike", 130), ("sight", 1, SIGHTS[1]), ("sight", 2, SIGHTS[1])), 62)

    def test_sights_that_are_none(self):
        for thing in [*anything(), list(SIGHTS[1]), ("a", "e", 1, 2), ("a", "b", None, None), ("a", "b", True, 3), ("a", "x", 1, 2)]:
            self.assertEqual(judge(("sight", 1, thing)), 0)

    def test_slips_that_are_none(self):
        for slip in SLIPS:
            for k, things in WRONG.items():
                for thing in things:
                    self.assertEqual(judge(*brought(), ("slip", (*slip[:k], thing, *slip[k + 1:]))), 8)

    def test_asked_of_no_point_or_no_day(self):
        answer = TOLD[0][3]
        for thing in [*anything(), *NO_POINTS.values()]:
            with self.subTest(thing=thing):
                self.assertEqual(judge(*brought(), ("asked", thing, 60, answer)), 8)
                if not is_office(thing, 61):
                    self.assertEqual(judge(*brought(), ("asked", WESTWARD, thing, answer)), 8)
                    self.assertEqual(judge(*brought(), ("title", "west", thing, titled("west", 60)[3])), 8)
                self.assertEqual(judge(*brought(), ("asked", WESTWARD, 60, thing)), 8)
        for day in (-1, 61):
            self.assertEqual(judge(*brought(), ("asked", WESTWARD, day, answer)), 8)

    def test_without_the_very_title(self):
        answer = TOLD[0][3]
        self.assertEqual(answer[3], (("king", 3), ("bob", 1)))
        for pairs in [*anything(), (("king", 3),), (("bob", 1), ("king", 3)), (("king", 3), ("bob", True)), [("king", 3), ("bob", 1)],
                      (["king", 3], ("bob", 1)), (("king", 3), ("bob", 1), ("bob", 1)), (("king", 3), ("bob", 2))]:
            with self.subTest(pairs=pairs):
                self.assertEqual(judge(*brought(), ("asked", WESTWARD, 60, (*answer[:3], pairs))), 8)
                self.assertEqual(judge(*brought(), ("title", "west", 60, pairs)), 8)
        nobodys = TOLD[2][3]
        self.assertEqual(nobodys[1], None)
        for pairs in anything():
            if pairs != ():
                self.assertEqual(judge(*brought(), ("asked", WESTWARD, 2, (*nobodys[:3], pairs))), 8)

    def test_far_of_other_numbers_or_ways(self):
        one = far("a", "c")[3]
        self.assertEqual(one[:2], (7, 9))
        for answer in [(6, *one[1:]), (7, 10, *one[2:]), (None, *one[1:]), (7, None, *one[2:]), (*one[:2], None, one[3]),
                       (*one[:3], None), (*one[:2], one[3], one[2]), (9, 7, *one[2:]), one[:3], (*one, None), list(one),
                       (*one[:2], list(one[2]), one[3]), (*one[:3], ()), (*one[:2], (), ())]:
            self.assertEqual(judge(*brought(), ("far", "a", "c", answer)), 8)
        unbound = far("a", "d")[3]
        self.assertEqual((unbound[0], unbound[1], unbound[3]), (8, None, None))
        for answer in [(8, 0, unbound[2], None), (8, None, unbound[2], ()), (8, None, None, None), (8, False, *unbound[2:])]:
            self.assertEqual(judge(*brought(), ("far", "a", "d", answer)), 8)
        for answer in [(0, 0, (), ()), (False, 0, (), ()), (0, False, (), ())]:
            self.assertEqual(judge(*brought(), ("far", "b", "b", answer)), None if answer[0] is not False and answer[1] is not False else 8)
        self.assertEqual(judge(*brought(), far("a", "c"), ("far", "a", "e", one), far("a", "c")), 9)
        for thing in [*anything(), "x", "e"]:
            if thing != "a":
                self.assertEqual(judge(*brought(), ("far", thing, "c", one)), 8)
                self.assertEqual(judge(*brought(), ("far", "a", thing, one)), 8)
                self.assertEqual(judge(*brought(), ("far", thing, thing, one)), 8)

    def test_titles_of_no_lot(self):
        pairs = titled("mid", 4)[3]
        self.assertRaises(NoLot, title, book_of(), "mid", 60)
        for lot, day in [("mid", 60), ("mid", 3), ("none", 60), ("east", 2)]:
            for told in (pairs, ()):
                self.assertEqual(judge(*brought(), ("title", lot, day, told)), 8)
        for lot in anything():
            self.assertEqual(judge(*brought(), ("title", lot, 60, pairs)), 8)
            self.assertEqual(judge(*brought(), ("title", lot, 60, ())), 8)

    def test_the_first_of_several(self):
        rows = [*brought(), *TOLD]
        for k in range(len(rows) + 1):
            for more in range(k, len(rows) + 1):
                wrong = [*rows]
                wrong.insert(more, ("strike", 77))
                wrong.insert(k, None)
                self.assertEqual(judge(*wrong), k)


class Records(unittest.TestCase):
    def test_anything(self):
        for thing in [*anything(), nested(tuple, 20)]:
            with self.subTest(thing=thing):
                self.assertEqual(judged(thing, digest), -1)
                self.assertEqual(judged((thing, brought()), digest), -1)
                self.assertEqual(judged((HEAD, thing), digest) == -1, not isinstance(thing, tuple))
                self.assertEqual(judged((HEAD, (), thing), digest), -1)
                self.assertEqual(judged((HEAD, (*brought(), thing)), digest), 8)

    def test_of_no_such_pair(self):
        for thing in [HEAD, [HEAD, ()], (HEAD,), (HEAD, []), (HEAD, {}), (HEAD, None), (HEAD, "x"), ((), HEAD), (HEAD, list(brought())),
                      (HEAD, (), ()), {HEAD: ()}, (list(HEAD), ())]:
            self.assertEqual(judged(thing, digest), -1)

    def test_heads_spoilt_at_each_place(self):
        self.assertIsNone(judged((HEAD, ()), digest))
        for head in spoilt(HEAD):
            with self.subTest(head=head):
                self.assertEqual(judged((head, ()), digest), None if self.is_head(head) else -1)

    def is_head(self, head):
        """Whether a head that was spoilt in one place still is one: of other names and keys, but in order."""
        if not isinstance(head, tuple) or len(head) != 4 or any(not isinstance(head[k], tuple) for k in (0, 1, 3)):
            return False
        names = [*head[0], *head[1]]
        if not all(2 <= len(lines) <= 8 for lines in head[:2]) or not all(self.is_name(name) for name in [*names, head[2]]):
            return False
        if len(set(names)) < len(names) or not all(isinstance(pair, tuple) and len(pair) == 2 for pair in head[3]):
            return False
        known = [name for name, _ in head[3]]
        return all(self.is_name(part) for pair in head[3] for part in pair) and known == sorted(set(known))

    def is_name(self, thing):
        return isinstance(thing, str) and thing.isalpha() and thing.islower() and len(thing) <= 8

    def test_keys_rise(self):
        for keys, told in [((), None), ((("ann", "a"),), None), ((("ann", "a"), ("bob", "a")), None), ((("ann", "b"), ("ann", "c")), -1),
                           ((("bob", "a"), ("ann", "b")), -1), ((("ann", "a"), ("ann", "a")), -1), ((("ann", "a" * 20),), None),
                           ((("ann", "a" * 21),), -1), ((("abcdefghi", "a"),), -1), ((("ann", "A"),), -1), (("ann", "a"), -1)]:
            with self.subTest(keys=keys):
                self.assertEqual(judged(((*HEAD[:3], keys), ()), digest), told)

    def test_what_the_head_tells_counts(self):
        rows = (*brought((), SLIPS[:1]), ("title", "east", 60, (("king", 1),)))
        self.assertIsNone(judged((HEAD, rows), digest))
        self.assertEqual(judged(((*HEAD[:2], "ann", HEAD[3]), rows), digest), 1)
        self.assertEqual(judged(((*HEAD[:3], HEAD[3][:3]), rows), digest), 1)
        self.assertEqual(judged(((*HEAD[:3], (*HEAD[3][:3], ("king", "clown"))), rows), digest), 1)
        self.assertEqual(judged(((("a", "b", "c"), *HEAD[1:]), rows), digest), 1)
        self.assertEqual(judged(((*HEAD[:1], ("e", "f"), *HEAD[2:]), rows), digest), 1)
        self.assertIsNone(judged(((*HEAD[:1], ("x", "y", "z"), *HEAD[2:]), rows), digest))
        self.assertEqual(judged((HEAD, rows), lambda text: 0), 1)

    def test_a_digest_that_raises(self):
        self.assertIsNone(judged((HEAD, brought()), never))
        for row in (TOLD[0], TOLD[13]):
            self.assertRaises(Broken, judged, (HEAD, (*brought(), row)), broken)
        self.assertEqual(judged((HEAD, (None, *brought(), TOLD[0])), broken), 0)
        self.assertEqual(judged(None, broken), -1)

    def test_the_record_is_left(self):
        record = (HEAD, (*brought(), *TOLD))
        text = repr(record)
        for _ in range(2):
            self.assertIsNone(judged(record, digest))
        self.assertEqual(repr(record), text)


class Houses(unittest.TestCase):
    def test_what_houses_tell_is_let_by(self):
        for seed in range(12):
            chance = random.Random(seed)
            house = House(PLAN, "king", KEYS, digest)
            for slip in history(seed, 12):
                house.bring(0, slip)
            for one, other, least, most in [("a", "b", 1, 3), ("b", "c", 2, None), ("c", "d", 1, 5), ("e", "f", 2, 3)][:1 + seed % 4]:
                house.sight((one, other, least, most))
            if seed % 6 == 5:
                house.sight(("e", "g", None, 0))
            head, rows = kept(house, 0)
            more, book = [], house.mail().book(0)
            for _ in range(8):
                point, day = ((chance.choice("abcd"), chance.randrange(-2, 4)), (chance.choice("efg"), chance.randrange(-2, 3))), chance.randrange(61)
                more.append(("asked", point, day, house.ask(point, day=day)))
                more += [("title", lot, day, title(book, lot, day)) for lot in book.land(day).lots()]
                if house.net().ring() is None:
                    one, other = chance.choice(["ab", "ac", "da", "ef", "ge"])
                    more.append(("far", one, other, house.far(one, other)))
            record = (head, (*rows, *more))
            self.assertIsNone(judged(record, digest))
            for k, row in enumerate(more):
                if row[0] == "title":
                    wrong = (*row[:3], (*row[3], ("zed", 1)))
                    self.assertEqual(judged((head, (*rows, *more[:k], wrong, *more[k + 1:])), digest), len(rows) + k)


if __name__ == "__main__":
    unittest.main()
