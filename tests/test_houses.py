"""Point [121]: the house; points [2] (a), (b), (i), and [3] as far as they speak of it."""

import itertools
import random
import unittest

from lothouse.answers import is_whose, whose
from lothouse.errors import LotError, NoDay, NoGround, NoKey, NoLine, NoOffice, NoPage, NoPoint, NoSight, NoSlip
from lothouse.houses import House
from lothouse.mail import Mail
from lothouse.nets import Net
from lothouse.titles import title
from tests.digests import Broken, broken, digest, never
from tests.histories import KEYS, PLAN, history, slip_of
from tests.test_mail import is_office, state
from tests.test_points import NO_POINTS
from tests.things import anything

LEFT, RIGHT = ((0, 0), (0, 1)), ((2, 0), (2, 1))
FIRST = slip_of("king", 1, 3, ("grant", "east", RIGHT, "ann"), "king")
SECOND = slip_of("king", 2, 4, ("grant", "west", LEFT, "bob"), "king")
THIRD = slip_of("ann", 1, 5, ("give", "east", "ann", "bob", (1, 2)), "ann")
SIGHT, OTHER = ("a", "b", 3, 5), ("b", "c", 4, 4)
# By SIGHT and OTHER: in column 0, in column 0 or 1; and a point of east's, 2 at least east of d's neighbour c.
WESTWARD, WAVERS = (("a", 2), ("e", 0)), (("a", 4), ("e", 0))
EASTWARD, BEYOND = (("c", 0), ("e", 0)), (("a", -1), ("e", 0))


def house_of(*sights, slips=(), asked=digest, offices=3):
    """A house with these sights, of whose offices the first heard these slips."""
    house = House(PLAN, "king", KEYS, asked, offices=offices)
    for sight in sights:
        house.sight(sight)
    for slip in slips:
        house.bring(0, slip)
    return house


def told(house):
    """All that a house tells but its log."""
    return house.net().sights(), state(house.mail())


class Making(unittest.TestCase):
    def test_offices(self):
        for many in (2, 3, 4, 5):
            house = house_of(offices=many)
            self.assertEqual(house.bring(many - 1, FIRST), "new")
            self.assertRaises(NoOffice, house.bring, many, FIRST)
        self.assertRaises(NoOffice, House(PLAN, "king", KEYS, digest).bring, 3, FIRST)

    def test_no_key_then_no_office(self):
        for thing in [*anything(), 1, 6, "3", (3,)]:
            if not (is_office(thing, 6) and thing > 1):
                with self.assertRaises(NoOffice) as caught:
                    House(PLAN, "king", KEYS, digest, offices=thing)
                self.assertIs(caught.exception.office, thing)
            if thing != {}:
                self.assertRaises(NoKey, House, PLAN, "king", thing, digest, offices=thing)
        self.assertRaises(TypeError, House, PLAN, "king", KEYS, digest, 3)

    def test_at_first(self):
        house = house_of()
        self.assertEqual((house.log(), house.busy(), house.net().sights()), ([], False, {}))
        self.assertEqual(house.net().plan(), PLAN)
        book = house.mail().book(0)
        self.assertEqual((book.plan(), book.giver(), book.known_keys(), book.slips()), (PLAN, "king", KEYS, []))

    def test_by_names_in_any_order(self):
        house = House(offices=2, digest=digest, keys=KEYS, giver="king", plan=PLAN)
        self.assertEqual(house.sight(sight=SIGHT), 1)
        self.assertEqual(house.bring(slip=FIRST, office=1), "new")
        house.send(other=1, one=0)
        house.send(other=1, one=0)
        self.assertEqual(house.come(kept=True, at=1, other=1, one=0), 0)
        self.assertIsNone(house.lose(at=1, other=1, one=0))
        self.assertEqual(house.ask(day=60, office=0, point=BEYOND)[:2], ("one", None))
        self.assertEqual(house.far(other="b", one="a")[:2], (3, 5))
        self.assertIsNone(house.strike(number=1))
        self.assertRaises(TypeError, house.come, 0, 1, 0)
        self.assertRaises(TypeError, house.lose, 0, 1, 0)
        self.assertRaises(TypeError, house.ask, BEYOND, 0)

    def test_keys_changed_later(self):
        keys = dict(KEYS)
        house = House(PLAN, "king", keys, digest)
        keys.clear()
        self.assertEqual(house.mail().book(2).known_keys(), KEYS)


class Sights(unittest.TestCase):
    def test_numbers(self):
        house = house_of()
        self.assertEqual([house.sight(SIGHT), house.sight(OTHER), house.sight(SIGHT)], [1, 2, 3])
        self.assertIsNone(house.strike(3))
        self.assertEqual(house.sight(OTHER), 4)
        house.strike(1)
        house.strike(4)
        self.assertEqual([house.sight(SIGHT), house.sight(OTHER)], [5, 6])
        self.assertEqual(house.net().sights(), {2: OTHER, 5: SIGHT, 6: OTHER})

    def test_no_sight(self):
        house = house_of(SIGHT)
        for thing in [*anything(), list(SIGHT), ("a", "e", 3, 5), ("a", "b", None, None), ("a", "a", 0, 0), ("a", "b", True, 5),
                      ("a", "b", 3, 10 ** 9 + 1), SIGHT[:3], (*SIGHT, None)]:
            with self.subTest(thing=thing):
                with self.assertRaises(NoSight) as caught:
                    house.sight(thing)
                self.assertEqual(caught.exception.number, 0)
        self.assertEqual(house.net().sights(), {1: SIGHT})
        self.assertEqual(house.sight(OTHER), 2)

    def test_where_sixty_stand(self):
        house = house_of(*[SIGHT] * 60)
        for thing, number in [(SIGHT, 61), (None, 0), (SIGHT, 61)]:
            with self.assertRaises(NoSight) as caught:
                house.sight(thing)
            self.assertEqual(caught.exception.number, number)
        self.assertEqual(len(house.net().sights()), 60)
        house.strike(17)
        self.assertEqual(house.sight(OTHER), 61)
        self.assertRaises(NoSight, house.sight, OTHER)
        self.assertEqual(house.net().sights()[61], OTHER)

    def test_behind_two_hundred(self):
        house = house_of()
        for k in range(1, 201):
            self.assertEqual(house.sight(SIGHT), k)
            if k <= 150:
                house.strike(k)
        for thing, number in [(SIGHT, 201), (None, 0)]:
            with self.assertRaises(NoSight) as caught:
                house.sight(thing)
            self.assertEqual(caught.exception.number, number)
        self.assertEqual(list(house.net().sights()), list(range(151, 201)))
        house.strike(200)
        self.assertRaises(NoSight, house.sight, SIGHT)

    def test_where_sixty_stand_behind_two_hundred(self):
        house = house_of()
        for k in range(1, 201):
            house.sight(SIGHT)
            if k <= 140:
                house.strike(k)
        with self.assertRaises(NoSight) as caught:
            house.sight(SIGHT)
        self.assertEqual(caught.exception.number, 61)
        with self.assertRaises(NoSight) as caught:
            house.sight(None)
        self.assertEqual(caught.exception.number, 0)
        house.strike(141)
        with self.assertRaises(NoSight) as caught:
            house.sight(SIGHT)
        self.assertEqual(caught.exception.number, 201)

    def test_strike_of_anything(self):
        house = house_of(SIGHT, OTHER)
        house.strike(2)
        for thing in [*anything(), 2, 3, 0, -1, 201, "1", (1,), [1], True]:
            if thing != 1 or isinstance(thing, bool):
                with self.subTest(thing=thing):
                    with self.assertRaises(NoSight) as caught:
                        house.strike(thing)
                    self.assertIs(caught.exception.number, thing)
        self.assertEqual(house.net().sights(), {1: SIGHT})
        house.strike(1)
        self.assertRaises(NoSight, house.strike, 1)

    def test_the_net_is_the_askers_own(self):
        house = house_of(SIGHT)
        net = house.net()
        self.assertIs(type(net), Net)
        net.sights().clear()
        house.sight(OTHER)
        self.assertEqual(net.sights(), {1: SIGHT})
        self.assertEqual(house.net().sights(), {1: SIGHT, 2: OTHER})


class Offices(unittest.TestCase):
    def test_as_the_mails(self):
        """Whatever the house's mail is led to do, a mail that is led so tells the same, and refuses the same."""
        for seed in range(30):
            chance = random.Random(seed)
            house, mail = house_of(), Mail(PLAN, "king", KEYS, digest)
            slips = history(seed, 8)
            for _ in range(60):
                one, other = chance.choice([0, 1, 2, 2, 3, True, None]), chance.choice([0, 1, 2, 0, 1, -1, "1"])
                more = chance.choice([{}, {"at": 0}, {"at": chance.choice([1, 5, None, True, -1])}])
                keep = chance.choice([{}, {"kept": True}])
                name, parts, named = chance.choice([
                    ("bring", (one, chance.choice([*slips, None])), {}), ("send", (one, other), {}), ("send", (one, other), {}),
                    ("come", (one, other), {**more, **keep}), ("come", (one, other), {**more, **keep}), ("lose", (one, other), more),
                ])
                self.assertEqual(self.answer(house, name, parts, named), self.answer(mail, name, parts, named))
            self.assertEqual(state(house.mail()), state(mail))

    def answer(self, asked, name, parts, named):
        """What is told, or the refusal."""
        try:
            return getattr(asked, name)(*parts, **named)
        except LotError as e:
            return type(e).__name__, vars(e)

    def test_refusals(self):
        house = house_of(slips=[FIRST])
        house.send(0, 1)
        kept = told(house)
        for thing in [*anything(), 3, -1]:
            if not is_office(thing, 3):
                for call, parts in [(house.bring, (thing, None)), (house.send, (thing, 1)), (house.send, (1, thing)),
                                    (house.come, (thing, 1)), (house.come, (0, thing)), (house.lose, (thing, thing)),
                                    (house.lose, (0, thing))]:
                    with self.assertRaises(NoOffice) as caught:
                        call(*parts)
                    self.assertIs(caught.exception.office, thing)
            if not is_office(thing, 1):
                self.assertRaises(NoPage, house.come, 0, 1, at=thing)
                self.assertRaises(NoPage, house.lose, 0, 1, at=thing)
            self.assertRaises(NoSlip, house.bring, 0, thing)
        for call in (house.send, house.come, house.lose):
            self.assertRaises(NoOffice, call, 2, 2)
        self.assertEqual(told(house), kept)

    def test_mail_is_a_twin(self):
        house = house_of(slips=[FIRST])
        mail = house.mail()
        self.assertIs(type(mail), Mail)
        mail.bring(0, SECOND)
        mail.send(0, 1)
        self.assertEqual(state(house.mail())[0], [[FIRST], [], []])
        self.assertEqual(house.mail().under_way(0, 1), [])
        house.bring(1, THIRD)
        self.assertEqual(mail.book(1).slips(), [])
        self.assertEqual(house.mail().book(1).slips(), [THIRD])


class Asking(unittest.TestCase):
    def test_of_a_lot_with_its_title(self):
        house = house_of(SIGHT, OTHER, slips=[FIRST, SECOND, THIRD])
        word, lot, paper, names = house.ask((("d", -1), ("g", -1)))
        self.assertEqual((word, lot, names), ("one", "east", (("king", 1), ("ann", 1))))
        book = house.mail().book(0)
        self.assertEqual(paper, whose(house.net(), book.land(60), (("d", -1), ("g", -1)))[2])
        self.assertEqual(names, title(book, "east", 60))
        self.assertEqual(house.ask((("d", -1), ("g", -1)), day=4)[3], (("king", 1),))
        self.assertEqual(house.ask(WESTWARD, day=60)[:2], ("one", "west"))
        self.assertEqual(house.ask(WESTWARD, office=0)[3], (("king", 2),))

    def test_of_nobodys(self):
        house = house_of(SIGHT, OTHER, slips=[FIRST, SECOND])
        for point, day in [(BEYOND, 60), (WESTWARD, 3), (EASTWARD, 2), ((("b", 0), ("f", 0)), 60)]:
            answer = house.ask(point, day=day)
            if answer[0] == "one":
                self.assertEqual((answer[1], answer[3]), (None, ()))
        self.assertEqual(house.ask(BEYOND)[:2], ("one", None))
        self.assertEqual(house.ask(WESTWARD, day=3)[:2], ("one", None))
        self.assertEqual(house.ask(WESTWARD, day=0)[3], ())

    def test_by_an_offices_book(self):
        house = house_of(SIGHT, OTHER, slips=[SECOND, FIRST])
        house.bring(2, FIRST)
        self.assertEqual(house.ask(WESTWARD)[:2], ("one", "west"))
        self.assertEqual(house.ask(WESTWARD, office=1)[:2], ("one", None))
        self.assertEqual(house.ask(WESTWARD, office=2)[:2], ("one", None))
        self.assertEqual(house.ask((("d", -1), ("e", 0)), office=2)[:2], ("one", "east"))
        self.assertEqual(house.ask((("d", -1), ("e", 0)), office=2, day=2)[:2], ("one", None))

    def test_by_the_last_day_where_none_is_told(self):
        late = slip_of("king", 3, 60, ("grant", "mid", ((1, 0), (1, 1)), "bob"), "king")
        house = house_of(SIGHT, OTHER, slips=[FIRST, SECOND, late])
        point = (("c", -1), ("e", 0))
        self.assertEqual([house.ask(point)[1], house.ask(point, day=60)[1], house.ask(point, day=59)[1]], ["mid", "mid", None])

    def test_open_and_none(self):
        house = house_of(SIGHT, OTHER, slips=[FIRST, SECOND])
        land = house.mail().book(0).land(60)
        self.assertEqual(house.ask(WAVERS), whose(house.net(), land, WAVERS))
        self.assertEqual(house.ask(WAVERS)[0], "open")
        house.sight(("a", "b", 6, None))
        self.assertEqual(house.ask(WAVERS), ("none", house.net().ring()))
        house.strike(3)
        self.assertEqual(house.ask(WAVERS)[0], "open")

    def test_by_the_sights_that_stand(self):
        house = house_of(slips=[FIRST, SECOND])
        self.assertEqual(house.ask(WESTWARD)[0], "open")
        house.sight(SIGHT)
        self.assertEqual(house.ask(WESTWARD)[:2], ("one", "west"))
        house.strike(1)
        self.assertEqual(house.ask(WESTWARD)[0], "open")

    def test_no_point_then_no_office_then_no_day(self):
        for house in (house_of(SIGHT, slips=[FIRST]), house_of(("a", "b", 5, 3))):
            log = house.log()
            for thing in [*anything(), *NO_POINTS.values()]:
                for office, day in [(0, 60), (3, 60), (None, None)]:
                    self.assertRaises(NoPoint, house.ask, thing, office=office, day=day)
            for thing in [*anything(), 3, -1, "0"]:
                if not is_office(thing, 3):
                    for day in (60, 61, thing):
                        with self.assertRaises(NoOffice) as caught:
                            house.ask(WAVERS, office=thing, day=day)
                        self.assertIs(caught.exception.office, thing)
                if not is_office(thing, 61):
                    with self.assertRaises(NoDay) as caught:
                        house.ask(WAVERS, day=thing)
                    self.assertIs(caught.exception.day, thing)
            self.assertEqual(house.log(), log)

    def test_against_whose_and_title(self):
        met = set()
        for seed in range(25):
            chance = random.Random(seed)
            house = house_of(SIGHT, OTHER, ("c", "d", 1, 4), ("e", "f", 2, 3), slips=history(seed, 15))
            for _ in range(12):
                point = ((chance.choice("abcd"), chance.randrange(-5, 6)), (chance.choice("efg"), chance.randrange(-3, 4)))
                day = chance.randrange(61)
                book, answer = house.mail().book(0), house.ask(point, day=day)
                plain = whose(house.net(), book.land(day), point)
                if plain[0] == "one" and plain[1] is not None:
                    plain = (*plain[:3], title(book, plain[1], day))
                self.assertEqual(answer, plain)
                self.assertIs(is_whose(house.net(), book.land(day), point, answer), True)
                met.add((answer[0], answer[0] == "one" and answer[1] is not None))
        self.assertEqual(len(met), 3)


class Far(unittest.TestCase):
    def test_both_ways(self):
        house = house_of(SIGHT, OTHER)
        self.assertEqual(house.far("a", "c"), (7, 9, ((2, "least"), (1, "least")), ((1, "most"), (2, "most"))))
        self.assertEqual(house.far("c", "a"), (-9, -7, ((1, "most"), (2, "most")), ((2, "least"), (1, "least"))))

    def test_where_there_is_no_greatest_or_no_least(self):
        house = house_of()
        self.assertEqual(house.far("a", "c"), (2, None, ((0, "c"), (0, "b")), None))
        self.assertEqual(house.far("c", "a"), (None, -2, None, ((0, "c"), (0, "b"))))
        self.assertEqual(house.far("f", "f"), (0, 0, (), ()))

    def test_as_the_nets(self):
        for seed in range(30):
            chance = random.Random(seed)
            house = house_of()
            for _ in range(seed % 7):
                one, other = chance.sample(chance.choice(["abcd", "efg"]), 2)
                house.sight((one, other, chance.choice([None, -3, 1]), chance.randrange(2, 9)))
            net = house.net()
            for lines in ("abcd", "efg"):
                for one, other in itertools.product(lines, repeat=2):
                    if net.ring() is None:
                        plain = (net.least(one, other), net.most(one, other), net.way(other, one), net.way(one, other))
                        self.assertEqual(house.far(one, other), plain)
                    else:
                        self.assertRaises(NoGround, house.far, one, other)

    def test_no_line_then_no_ground(self):
        for house in (house_of(SIGHT), house_of(("a", "b", 5, 3))):
            for thing in [*anything(), "x", "A", ("a",)]:
                if thing == "a":
                    continue
                for one, other in [(thing, "b"), (thing, "x"), (thing, thing), ("b", thing)]:
                    with self.assertRaises(NoLine) as caught:
                        house.far(one, other)
                    self.assertIs(caught.exception.line, thing)
            with self.assertRaises(NoLine) as caught:
                house.far("a", "e")
            self.assertEqual(caught.exception.line, "e")
        with self.assertRaises(NoGround) as caught:
            house.far("e", "f")
        self.assertEqual(caught.exception.steps, house.net().ring())


def ends(many):
    """The log behind so many deeds."""
    return [(word, k) for k in range(1, many + 1) for word in ("begin", "end")]


class Logs(unittest.TestCase):
    def test_each_deed_done(self):
        house = house_of()
        for many, deed in enumerate([lambda: house.sight(SIGHT), lambda: house.strike(1), lambda: house.bring(0, FIRST),
                                     lambda: house.send(0, 1), lambda: house.come(0, 1, kept=True), lambda: house.lose(0, 1)], start=1):
            deed()
            self.assertEqual(house.log(), ends(many))
            self.assertIs(house.busy(), False)

    def test_each_deed_refused(self):
        house = house_of()
        for many, deed in enumerate([lambda: house.sight(None), lambda: house.strike(1), lambda: house.bring(3, FIRST),
                                     lambda: house.bring(0, None), lambda: house.send(0, 0), lambda: house.come(0, 1),
                                     lambda: house.lose(0, 9)], start=1):
            self.assertRaises(LotError, deed)
            self.assertEqual(house.log(), ends(many))
            self.assertIs(house.busy(), False)

    def test_what_only_tells_is_no_deed(self):
        house = house_of(SIGHT, slips=[FIRST])
        house.net(), house.mail(), house.ask(WAVERS), house.far("a", "b"), house.log(), house.busy()
        self.assertRaises(LotError, house.ask, None)
        self.assertRaises(LotError, house.far, "a", "x")
        house.mail().bring(0, SECOND)
        self.assertEqual(house.log(), ends(2))

    def test_a_new_list_each_time(self):
        house = house_of(SIGHT)
        self.assertIs(type(house.log()), list)
        house.log().clear()
        self.assertEqual(house.log(), ends(1))

    def test_where_the_digest_raises(self):
        house = house_of(slips=[FIRST], asked=broken)
        kept = told_without_marks(house)
        for many in (2, 3):
            self.assertRaises(Broken, house.send, 0, 1)
            self.assertEqual(house.log(), ends(many))
            self.assertIs(house.busy(), False)
        self.assertRaises(Broken, house.ask, WAVERS)
        self.assertEqual(house.log(), ends(3))
        self.assertEqual(told_without_marks(house), kept)
        self.assertEqual(house.bring(0, FIRST), "known")
        self.assertEqual(house.log(), ends(4))

    def test_busy_while_the_digest_is_asked(self):
        seen = []

        def watching(text):
            seen.append((houses[0].busy(), houses[0].log()))
            return digest(text)

        houses = [house_of(slips=[FIRST], asked=watching)]
        house = houses[0]
        house.send(0, 1)
        self.assertEqual(seen, [(True, [*ends(1), ("begin", 2)])])
        self.assertEqual((house.busy(), house.log()), (False, ends(2)))
        house.ask(WAVERS)
        self.assertEqual(seen[1:2], [(False, ends(2))])

    def test_deeds_ask_no_digest_but_send(self):
        house = house_of(SIGHT, slips=[FIRST, SECOND], asked=never)
        house.strike(1)
        house.send(1, 0)
        house.send(1, 0)
        self.assertEqual((house.come(1, 0), house.lose(1, 0)), (0, None))
        self.assertEqual(house.far("a", "b")[:2], (1, None))


def told_without_marks(house):
    """What a house tells without asking the digest."""
    mail = house.mail()
    return house.net().sights(), [mail.book(k).slips() for k in range(3)], mail.under_way(0, 1)


if __name__ == "__main__":
    unittest.main()
