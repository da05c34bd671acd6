"""Point [141]: the desk; points [2] (i) and [3] as far as they speak of it."""

import random
import unittest

from lothouse.desk import Desk
from lothouse.errors import LotError, NoDay, NoSlip
from lothouse.houses import House
from lothouse.sheets import sheet
from lothouse.slips import read_slip, slip_text
from lothouse.titles import title
from tests.digests import Broken, broken, digest, never
from tests.histories import KEYS, PLAN, history, slip_of
from tests.test_slips import NO_TEXTS as NO_SLIPS
from tests.test_texts import NO_POINTS, NO_SIGHTS
from tests.things import anything

HEAD = "plan a b c d / e f g / king"
LEFT, RIGHT = ((0, 0), (0, 1)), ((2, 0), (2, 1))
FIRST = slip_text(slip_of("king", 1, 3, ("grant", "east", RIGHT, "ann"), "king"))
SECOND = slip_text(slip_of("king", 2, 4, ("grant", "west", LEFT, "bob"), "king"))
THIRD = slip_text(slip_of("ann", 1, 5, ("give", "east", "ann", "bob", (1, 2)), "ann"))
# Rows of each form that are no plan's and no key's.
ROWS = [
    "sight a b 3 5", "strike 1", "bring 0 " + FIRST, "send 0 1", "come 0 1", "lose 0 1", "ask 0 60 a+1 e+0", "far a b",
    "words 0 60", "title 0 60 east", "map 0 60",
]


def desk_of(*rows, asked=digest):
    """A desk with the plan, all keys and what these rows do."""
    desk = Desk(asked)
    for row in [HEAD, *[f"key {name} {key}" for name, key in KEYS.items()], *rows]:
        desk.say(row)
    return desk


class Beginning(unittest.TestCase):
    def test_ahead_of_the_plan(self):
        desk = Desk(digest)
        for row in [*ROWS, "key ann apple", "", " ", "what", "ok", "plan", "plan ", "plan a b", "plan a b / c d", "plan a b / c d / ",
                    "plan a b / c d / king ", " plan a b / c d / king", "plan  a b / c d / king", "plan a  b / c d / king",
                    "plan a b /c d / king", "plan a b/ c d / king", "plan a b  / c d / king", "plan a b /  c d / king",
                    "plan a b / c d /king", "plan a b / c d / king queen", "plan a b / c d / king / x", "plan a b / / king",
                    "plan / c d / king", "plan a b / c d / King", "plan a B / c d / king", "plan a b / c1 d / king", "plan a b c d king",
                    "plan a b / c d / abcdefghi", "plan a b / c abcdefghi / king", "plan a b / c d / king\n", "Plan a b / c d / king",
                    "plan a b\n/ c d / king", "plan a b , c d , king", "plan a b / c d / -", "plana b / c d / king", "plan / / "]:
            with self.subTest(row=row):
                self.assertEqual(desk.say(row), "no plan")
        self.assertEqual(desk.say(HEAD), "ok")
        self.assertEqual(desk.say("key ann apple"), "ok")

    def test_a_plan_that_is_refused(self):
        desk = Desk(digest)
        for row in ["plan a / c d / king", "plan a b / c / king", "plan a a / c d / king", "plan a b / a c / king", "plan a / a / king",
                    "plan a b c d e f g h i / y z / king", "plan y z / a b c d e f g h i / king"]:
            self.assertEqual(desk.say(row), "no noplan")
            self.assertEqual(desk.say("map 0 60"), "no plan")
            self.assertEqual(desk.say("key ann apple"), "no plan")
        self.assertEqual(desk.say("plan a b / c d / a"), "ok")
        self.assertEqual(desk.say("far a b"), "1 -")

    def test_a_second_plan(self):
        desk = Desk(digest)
        desk.say(HEAD)
        for row in [HEAD, "plan x y / z w / king", "plan a / b / king", "plan", "plan a b"]:
            self.assertEqual(desk.say(row), "what")
        self.assertEqual(desk.say("key king crown"), "ok")
        self.assertEqual(desk.say("far a d"), "3 -")
        self.assertEqual(desk.say(HEAD), "what")
        self.assertEqual(desk.say("far x y"), "no noline")

    def test_three_offices(self):
        desk = desk_of()
        self.assertEqual([desk.say(f"map {office} 60") for office in (0, 1, 2, 3, -1)], ["- - - / - - -"] * 3 + ["no nooffice"] * 2)

    def test_the_least_and_the_greatest_plan(self):
        desk = Desk(digest)
        self.assertEqual(desk.say("plan a b / c d / king"), "ok")
        self.assertEqual(desk.say("map 0 60"), "-")
        desk = Desk(digest)
        self.assertEqual(desk.say("plan " + " ".join("abcdefgh") + " / " + " ".join("ijklmnop") + " / king"), "ok")
        self.assertEqual(desk.say("map 2 0"), " / ".join([" ".join("-" * 7)] * 7))

    def test_desks_have_each_their_own_house(self):
        one, other = desk_of("sight a b 3 5", "bring 0 " + FIRST), desk_of()
        self.assertEqual([desk.say("far a b") for desk in (one, other)], ["3 5", "1 -"])
        self.assertEqual([desk.say("words 0 60") for desk in (one, other)], ["king.1 done", "none"])


class Keys(unittest.TestCase):
    def word(self, *rows):
        """What is told of a slip sealed with the king's right key, behind these rows."""
        desk = Desk(digest)
        desk.say(HEAD)
        for row in rows:
            self.assertEqual(desk.say(row), "ok")
        desk.say("bring 0 " + FIRST)
        return desk.say("words 0 60")

    def test_the_later_one_counts(self):
        self.assertEqual(self.word(), "king.1 unsealed")
        self.assertEqual(self.word("key king crown"), "king.1 done")
        self.assertEqual(self.word("key king clown"), "king.1 unsealed")
        self.assertEqual(self.word("key king clown", "key ann apple", "key king crown"), "king.1 done")
        self.assertEqual(self.word("key king crown", "key king clown"), "king.1 unsealed")
        self.assertEqual(self.word("key king crown", "key ann apple", "key bob " + "b" * 20), "king.1 done")

    def test_behind_others(self):
        refused = ["sight a a 3 5", "strike 4", "bring 3 " + FIRST, "send 0 0", "come 0 1", "lose 0 1", "ask 9 60 a+1 e+0",
                   "ask 0 60 x+1 e+0", "far a x", "words 0 61", "title 0 60 east", "map 0 61"]
        for row in [*ROWS, *refused]:
            desk = Desk(digest)
            desk.say(HEAD)
            self.assertEqual(desk.say("key ann apple"), "ok")
            self.assertNotEqual(desk.say(row), "what")
            for key in ("key king crown", "key ann apple", "key x y"):
                self.assertEqual(desk.say(key), "what")
            desk.say("bring 1 " + SECOND.replace("king 2", "king 1"))
            self.assertEqual(desk.say("words 1 60"), "king.1 unsealed")

    def test_behind_rows_of_no_form(self):
        desk = Desk(digest)
        desk.say(HEAD)
        for row in ["", "sight a b 3", "strike", "strike x", "bring 0 x", "send 0", "come 0 1 2", "lose", "ask 0 60 a+1", "far a",
                    "words 0", "title 0 60", "map", "key", "key ann", "key Ann apple", "key ann apple ", HEAD, "what", "plan"]:
            self.assertEqual(desk.say(row), "what")
        self.assertEqual(desk.say("key king crown"), "ok")
        desk.say("bring 0 " + FIRST)
        self.assertEqual(desk.say("key king crown"), "what")
        self.assertEqual(desk.say("words 0 60"), "king.1 done")

    def test_of_no_form(self):
        desk = Desk(digest)
        desk.say(HEAD)
        for row in ["key", "key ", "key ann", "key ann ", "key  ann apple", "key ann  apple", "key ann apple ", "key ann apple x",
                    " key ann apple", "key Ann apple", "key ann Apple", "key ann apple1", "key abcdefghi apple", "key ann " + "a" * 21,
                    "key an1 apple", "keys ann apple", "KEY ann apple", "key ann apple\n", "key ann=apple", "key - apple", "key ann -"]:
            with self.subTest(row=row):
                self.assertEqual(desk.say(row), "what")


class Rows(unittest.TestCase):
    def test_sights(self):
        desk = desk_of()
        self.assertEqual([desk.say(row) for row in ["sight a b 3 5", "sight b c - 4", "sight b c 4 -", "sight e f -7 7"]], list("1234"))
        self.assertEqual([desk.say(row) for row in ["far a b", "far a c", "far c a", "far b d", "far g e", "far e f"]],
                         ["3 5", "7 9", "-9 -7", "5 -", "- -2", "1 7"])
        self.assertEqual([desk.say("strike 1"), desk.say("strike 1"), desk.say("sight a b 3 5"), desk.say("strike 5")],
                         ["ok", "no nosight", "5", "ok"])
        for row in ["sight a a 3 5", "sight a e 3 5", "sight x y 3 5", "sight a b - -", "sight a b 3 1000000001", "strike 0",
                    "strike 1", "strike -2", "strike 201", "strike 6", "strike " + 39 * "9"]:
            self.assertEqual(desk.say(row), "no nosight")
        self.assertEqual(desk.say("sight a b 3 5"), "6")

    def test_sixty_and_two_hundred_sights(self):
        desk = desk_of(*["sight a b 3 5"] * 60)
        self.assertEqual([desk.say("sight a b 3 5"), desk.say("strike 60"), desk.say("sight a b 3 5")], ["no nosight", "ok", "61"])
        for k in range(62, 201):
            self.assertEqual((desk.say(f"strike {k - 1}"), desk.say("sight a b 3 5")), ("ok", str(k)))
        self.assertEqual([desk.say("strike 200"), desk.say("sight a b 3 5")], ["ok", "no nosight"])

    def test_bring_and_words(self):
        desk = desk_of()
        self.assertEqual(desk.say("words 0 60"), "none")
        self.assertEqual([desk.say("bring 0 " + slip) for slip in (SECOND, FIRST, FIRST, THIRD)], ["new", "new", "known", "new"])
        self.assertEqual(desk.say("words 0 60"), "ann.1 done, king.1 done, king.2 done")
        self.assertEqual(desk.say("words 0 3"), "ann.1 later, king.1 done, king.2 later")
        self.assertEqual([desk.say("words 1 60"), desk.say("words 2 0")], ["none", "none"])
        self.assertEqual([desk.say("bring 1 " + SECOND), desk.say("words 1 60")], ["new", "king.2 waits"])
        for row in ["bring 3 " + FIRST, "bring -1 " + FIRST, "words 3 60", "words -1 60", "words 3 61"]:
            self.assertEqual(desk.say(row), "no nooffice")
        for row in ["words 0 61", "words 0 -1", "words 2 61", "map 0 61", "title 0 61 east", "title 0 -1 none"]:
            self.assertEqual(desk.say(row), "no noday")

    def test_pages(self):
        desk = desk_of("bring 0 " + FIRST, "bring 0 " + SECOND)
        self.assertEqual([desk.say(row) for row in ["send 1 0", "come 1 0", "send 0 1", "send 0 1", "come 0 1", "come 0 1", "come 0 1"]],
                         ["ok", "0", "ok", "ok", "2", "0", "no nopage"])
        self.assertEqual(desk.say("words 1 60"), "king.1 done, king.2 done")
        self.assertEqual([desk.say(row) for row in ["send 0 2", "lose 0 2", "lose 0 2"]], ["ok", "ok", "no nopage"])
        for word in ("send", "come", "lose"):
            for ends in ("0 3", "3 0", "0 0", "2 2", "-1 0", "0 -1", "9 9"):
                self.assertEqual(desk.say(f"{word} {ends}"), "no nooffice")

    def test_the_first_page_comes(self):
        desk = desk_of("send 1 0", "come 1 0", "bring 0 " + FIRST, "send 0 1", "bring 0 " + SECOND, "send 0 1")
        self.assertEqual([desk.say("come 0 1"), desk.say("come 0 1")], ["1", "1"])
        desk = desk_of("send 1 0", "come 1 0", "bring 0 " + FIRST, "send 0 1", "bring 0 " + SECOND, "send 0 1")
        self.assertEqual([desk.say("lose 0 1"), desk.say("come 0 1")], ["ok", "2"])

    def test_ask(self):
        desk = desk_of("sight a b 3 5", "sight b c 4 4", "sight c d 2 9", "bring 0 " + FIRST, "bring 0 " + SECOND)
        for row, told in [("ask 0 60 a+2 e+0", "one west"), ("ask 0 60 c+1 e+0", "one east"), ("ask 0 60 a-1 e+0", "one -"),
                          ("ask 0 60 a+4 e+0", "open - west"), ("ask 0 60 c-1 e+0", "one -"), ("ask 0 60 a+8 e+0", "open - east"),
                          ("ask 0 60 c+2 e+0", "open - east"), ("ask 0 3 a+2 e+0", "one -"), ("ask 1 60 a+2 e+0", "one -"),
                          ("ask 0 0 c+1 e+0", "one -"), ("ask 0 60 g+0 e+0", "no nopoint"), ("ask 0 60 e+0 a+0", "no nopoint"),
                          ("ask 3 61 x+1 e+0", "no nopoint"), ("ask 3 61 a+1 e+0", "no nooffice"), ("ask 0 61 a+1 e+0", "no noday"),
                          ("ask -1 60 a+1 e+0", "no nooffice"), ("ask 0 -1 a+1 e+0", "no noday"),
                          ("ask 0 60 a+1000000001 e+0", "no nopoint")]:
            with self.subTest(row=row):
                self.assertEqual(desk.say(row), told)
        desk.say("sight a b 6 -")
        self.assertEqual([desk.say("ask 0 60 a+2 e+0"), desk.say("far a b"), desk.say("far a x")], ["none", "no noground", "no noline"])

    def test_open_between_lots(self):
        east = slip_text(slip_of("king", 2, 4, ("grant", "zoo", ((1, 0), (1, 1)), "bob"), "king"))
        desk = desk_of("sight c d 1 5", "sight b c 9 -", "bring 0 " + FIRST, "bring 0 " + east)
        self.assertEqual(desk.say("ask 0 60 d-3 e+0"), "open east zoo")
        west = slip_text(slip_of("king", 2, 4, ("grant", "cow", ((1, 0), (1, 1)), "bob"), "king"))
        desk = desk_of("sight c d 1 5", "sight b c 9 -", "bring 0 " + FIRST, "bring 0 " + west)
        self.assertEqual(desk.say("ask 0 60 d-3 e+0"), "open cow east")

    def test_far(self):
        desk = desk_of("sight e f - 9")
        self.assertEqual([desk.say(row) for row in ["far e f", "far f e", "far f g", "far g f", "far e e", "far a d", "far d a"]],
                         ["1 9", "-9 -1", "1 -", "- -1", "0 0", "3 -", "- -3"])
        for row in ["far a e", "far a x", "far x a", "far e a", "far x y"]:
            self.assertEqual(desk.say(row), "no noline")

    def test_titles(self):
        desk = desk_of("bring 0 " + FIRST, "bring 0 " + SECOND, "bring 0 " + THIRD)
        self.assertEqual(desk.say("title 0 60 east"), "king.1, ann.1")
        self.assertEqual(desk.say("title 0 4 east"), "king.1")
        self.assertEqual(desk.say("title 0 60 west"), "king.2")
        for row, told in [("title 0 2 east", "no nolot"), ("title 1 60 east", "no nolot"), ("title 0 60 none", "no nolot"),
                          ("title 0 61 none", "no noday"), ("title 3 61 none", "no nooffice"), ("title 3 60 east", "no nooffice")]:
            self.assertEqual(desk.say(row), told)

    def test_maps(self):
        top = slip_text(slip_of("king", 3, 6, ("grant", "top", ((1, 1),), "ann"), "king"))
        desk = desk_of(*["bring 0 " + slip for slip in (FIRST, SECOND, THIRD, top)])
        self.assertEqual([desk.say(f"map 0 {day}") for day in (60, 4, 3, 2)],
                         ["west top east / west - east", "west - east / west - east", "- - east / - - east", "- - - / - - -"])
        self.assertEqual([desk.say("map 1 60"), desk.say("map 3 61"), desk.say("map 0 61")], ["- - - / - - -", "no nooffice", "no noday"])

    def test_rows_of_no_form(self):
        desk = desk_of("sight a b 3 5", "bring 0 " + FIRST, "send 0 1", "send 0 2")
        told = [desk.say(row) for row in ["far a b", "words 0 60", "map 0 60", "words 1 60"]]
        rows = ["", " ", "  ", "sights a b 3 5", "say", "ok", "none", "twin", "mail 0", "hear 0 " + FIRST, "key", "plan", HEAD]
        rows += ["sight " + text for text in NO_SIGHTS] + ["bring 0 " + text for text in NO_SLIPS]
        rows += ["ask 0 60 " + text for text in NO_POINTS]
        for word, *parts in [row.split(" ") for row in ROWS]:
            rows += [word, word + " ", " ".join([word, *parts, ""]), " ".join([word, *parts, "x"]), " ".join([word, *parts, "1"]),
                     "  ".join([word, *parts]), " " + " ".join([word, *parts]), " ".join([word, *parts[:-2]]), " ".join([word, *parts, "-"]),
                     " ".join([word.upper(), *parts]), " ".join([word + "s", *parts]), " ".join([word, *parts]) + "\n"]
        for wrong in ["00", "-0", "+0", "01", "x", "", "-", "0.0", "1e0", "--1", "0_1", "None", "True", "~"]:
            rows += [f"strike {wrong}", f"bring {wrong} {FIRST}", f"ask {wrong} 60 a+1 e+0", f"ask 0 {wrong} a+1 e+0", f"words {wrong} 60",
                     f"words 0 {wrong}", f"title {wrong} 60 east", f"title 0 {wrong} east", f"map {wrong} 60", f"map 0 {wrong}"]
            rows += [f"{word} {ends}" for word in ("send", "come", "lose") for ends in (f"{wrong} 1", f"0 {wrong}")]
        for wrong in ["", "A", "a1", "abcdefghi", "-", "3"]:
            rows += [f"far {wrong} b", f"far a {wrong}", f"title 0 60 {wrong}"]
        for row in rows:
            with self.subTest(row=row):
                self.assertEqual(desk.say(row), "what")
        self.assertEqual([desk.say(row) for row in ["far a b", "words 0 60", "map 0 60", "words 1 60"]], told)
        self.assertEqual([desk.say(row) for row in ["come 0 1", "come 0 1", "lose 0 2", "lose 0 2", "strike 1"]],
                         ["0", "no nopage", "ok", "no nopage", "ok"])

    def test_no_texts(self):
        desk = Desk(digest)
        for thing in anything():
            if not isinstance(thing, str):
                self.assertEqual(desk.say(thing), "no plan")
        desk.say(HEAD)
        for thing in anything():
            self.assertEqual(desk.say(thing), "what")

    def test_by_name(self):
        desk = Desk(digest=digest)
        self.assertEqual(desk.say(row=HEAD), "ok")


class Digests(unittest.TestCase):
    def test_none_is_asked_for_what_needs_none(self):
        desk = desk_of("sight a b 3 5", "bring 0 " + FIRST, asked=never)
        self.assertEqual(desk.say("words 0 2"), "king.1 later")
        self.assertEqual(desk.say("ask 0 2 a+1 e+0"), "one -")
        self.assertEqual(desk.say("send 1 0"), "ok")

    def test_one_that_raises(self):
        desk = desk_of("sight a b 3 5", "bring 0 " + FIRST, asked=broken)
        for row in ["words 0 60", "map 0 60", "title 0 60 east", "ask 0 60 a+1 e+0", "send 0 1"]:
            self.assertRaises(Broken, desk.say, row)
            self.assertEqual(desk.say("come 0 1"), "no nopage")
            self.assertEqual(desk.say("far a b"), "3 5")
        self.assertEqual(desk.say("bring 0 " + FIRST), "known")

    def test_one_that_raises_what_a_refusal_is(self):
        raised = [None]

        def shaky(text):
            if raised[0] is not None:
                raise raised[0]
            return digest(text)

        desk = desk_of("bring 0 " + FIRST, asked=shaky)
        for error in (NoDay(3), NoSlip("x"), LotError("x"), ValueError("x"), KeyError("x")):
            raised[0] = error
            for row in ["words 0 60", "title 0 60 east", "send 0 1", "ask 0 60 a+1 e+0"]:
                with self.assertRaises(type(error)) as caught:
                    desk.say(row)
                self.assertIs(caught.exception, error)
            self.assertEqual(desk.say("words 0 61"), "no noday")
            self.assertEqual(desk.say("lose 0 1"), "no nopage")
        raised[0] = None
        self.assertEqual([desk.say("words 0 60"), desk.say("title 0 60 none")], ["king.1 done", "no nolot"])


class Plainly:
    """What point [141] tells, by a house that is led by the same deeds."""

    def __init__(self):
        self.house = House(PLAN, "king", KEYS, digest)

    def say(self, word, *parts):
        try:
            return getattr(self, word)(*parts)
        except LotError as e:
            return "no " + type(e).__name__.lower()

    def sight(self, *parts):
        return str(self.house.sight((*parts[:2], *[None if part == "-" else int(part) for part in parts[2:]])))

    def strike(self, number):
        self.house.strike(int(number))
        return "ok"

    def bring(self, office, *words):
        return self.house.bring(int(office), read_slip(" ".join(words)))

    def send(self, one, other):
        self.house.send(int(one), int(other))
        return "ok"

    def come(self, one, other):
        return str(self.house.come(int(one), int(other)))

    def lose(self, one, other):
        self.house.lose(int(one), int(other))
        return "ok"

    def ask(self, office, day, *places):
        point = tuple([(place[0], int(place[1:])) for place in places])
        told = self.house.ask(point, office=int(office), day=int(day))
        lots = {"none": (), "one": told[1:2], "open": told[2::2]}[told[0]]
        return " ".join([told[0], *sorted([lot or "-" for lot in lots])])

    def far(self, one, other):
        return " ".join(["-" if part is None else str(part) for part in self.house.far(one, other)[:2]])

    def words(self, office, day):
        told = self.house.mail().book(int(office)).words(int(day))
        return ", ".join([f"{pair[0]}.{pair[1]} {word}" for pair, word in told.items()]) or "none"

    def title(self, office, day, lot):
        told = title(self.house.mail().book(int(office)), lot, int(day))
        return ", ".join([f"{hand}.{number}" for hand, number in told])

    def map(self, office, day):
        told = sheet(self.house.mail().book(int(office)).land(int(day)), ((0, 2), (0, 1)))
        return " / ".join([" ".join([{"lot": block[-1], "free": "-", "mixed": "*"}[block[0]] for block in row]) for row in told])


def some_row(chance, slips):
    """A row of any form: of three offices and one more, of days, points and lines that are none now and then."""
    office, other, day = chance.choice("00012223"), chance.choice("0001122"), chance.choice(["60", "60", "20", "8", "0", "61"])
    lines = chance.choice(["abcd", "efg", "abx"])
    one, two = chance.choice(lines), chance.choice(lines)
    low = chance.choice(["-", "0", "1", "-2"])
    east, north = f"{chance.choice('abcd')}{chance.randrange(-3, 6):+d}", f"{chance.choice('efgg')}{chance.randrange(-3, 3):+d}"
    return chance.choice([
        f"sight {one} {two} {low} {chance.choice('-345')}", f"strike {chance.randrange(1, 12)}",
        f"bring {office} {slip_text(chance.choice(slips))}", f"bring 0 {slip_text(chance.choice(slips))}", f"send {office} {other}",
        f"send {office} {other}", f"come {office} {other}", f"come {office} {other}", f"lose {office} {other}",
        f"ask {office} {day} {east} {north}", f"ask 0 60 {east} {north}", f"far {one} {two}", f"words {office} {day}",
        f"title 0 {day} {chance.choice('lmnopq')}", f"title {office} {day} {chance.choice('lmnopq')}", f"map {office} {day}",
    ])


class Houses(unittest.TestCase):
    def test_against_a_house_led_by_the_same_deeds(self):
        met = {}
        for seed in range(40):
            chance = random.Random(seed)
            desk, plain, slips = desk_of(), Plainly(), history(seed, 12)
            for _ in range(150):
                row = some_row(chance, slips)
                told = plain.say(*row.split(" "))
                self.assertEqual(desk.say(row), told, row)
                kind = (row.split(" ")[0], told if told[:3] == "no " else told.split(" ")[0] if row[:3] == "ask" else "")
                met[kind] = met.get(kind, 0) + 1
        for kind in [("ask", "one"), ("ask", "open"), ("ask", "none"), ("far", "no noground"), ("far", "no noline"),
                     ("come", "no nopage"), ("title", "no nolot"), ("title", ""), ("map", "no noday"), ("strike", "")]:
            self.assertGreater(met.get(kind, 0), 5, kind)


if __name__ == "__main__":
    unittest.main()
