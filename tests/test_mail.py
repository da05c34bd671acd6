"""Point [100]: offices and the mail; points [2] (e), (i), and [3] as far as they speak of these."""

import itertools
import random
import unittest

from lothouse.books import Book
from lothouse.errors import LotError, NoKey, NoOffice, NoPage, NoSlip
from lothouse.mail import Mail
from lothouse.slips import slip_text
from tests.digests import Broken, broken, digest, never
from tests.histories import KEYS, PLAN, history, slip_of
from tests.things import anything

LEFT, RIGHT = ((0, 0), (0, 1)), ((2, 0), (2, 1))
FIRST = slip_of("king", 1, 3, ("grant", "east", RIGHT, "ann"), "king")
SECOND = slip_of("king", 2, 3, ("grant", "west", LEFT, "bob"), "king")
THIRD = slip_of("ann", 1, 5, ("give", "east", "ann", "bob", (1, 2)), "ann")
FOURTH = slip_of("bob", 1, 9, ("way", "lane", LEFT), "bob")


def mail_of(*slips, offices=3, asked=digest):
    """Offices of which the first heard these slips."""
    mail = Mail(PLAN, "king", KEYS, asked, offices=offices)
    for slip in slips:
        mail.bring(0, slip)
    return mail


def marks_of(*slips):
    """The marks of a book that heard these slips."""
    book = Book(PLAN, "king", KEYS, digest)
    for slip in slips:
        book.hear(slip)
    return book.marks()


def is_office(thing, offices):
    """Whether thing is the number of one of so many offices."""
    return isinstance(thing, int) and not isinstance(thing, bool) and 0 <= thing < offices


def state(mail, offices=3):
    """All that a mail tells."""
    ends = list(itertools.permutations(range(offices), 2))
    return ([mail.book(office).slips() for office in range(offices)], [mail.under_way(*two) for two in ends],
            [mail.last(*two) for two in ends])


class Making(unittest.TestCase):
    def test_offices(self):
        for many in (2, 3, 4, 5):
            mail = Mail(PLAN, "king", KEYS, digest, offices=many)
            for office in range(many):
                self.assertEqual(mail.book(office), Book(PLAN, "king", KEYS, digest))
            self.assertRaises(NoOffice, mail.book, many)
        self.assertRaises(NoOffice, Mail(PLAN, "king", KEYS, digest).book, 3)
        self.assertEqual(Mail(PLAN, "king", KEYS, digest).book(2).slips(), [])

    def test_no_key_then_no_office(self):
        for thing in [*anything(), 1, 6, -2, "3", (3,)]:
            if not (isinstance(thing, int) and not isinstance(thing, bool) and 2 <= thing <= 5):
                with self.subTest(thing=thing):
                    with self.assertRaises(NoOffice) as caught:
                        Mail(PLAN, "king", KEYS, digest, offices=thing)
                    self.assertIs(caught.exception.office, thing)
            if thing != {}:
                for offices in (3, 6, thing):
                    self.assertRaises(NoKey, Mail, PLAN, "king", thing, digest, offices=offices)
        self.assertRaises(NoKey, Mail, PLAN, "king", {"ann": "Apple"}, digest, offices=1)
        self.assertRaises(LotError, Mail, PLAN, "king", {}, digest, offices=1)

    def test_by_names_in_any_order(self):
        mail = Mail(offices=2, digest=digest, keys=KEYS, giver="king", plan=PLAN)
        self.assertEqual(mail.bring(slip=FIRST, office=0), "new")
        mail.send(other=1, one=0)
        mail.send(other=1, one=0)
        self.assertEqual(len(mail.under_way(other=1, one=0)), 2)
        self.assertEqual(mail.come(kept=False, at=1, other=1, one=0), 0)
        self.assertIsNone(mail.lose(at=0, other=1, one=0))
        self.assertEqual(mail.last(other=0, office=1), marks_of(FIRST))
        self.assertEqual(mail.book(office=0).slips(), [FIRST])

    def test_by_name_alone(self):
        self.assertRaises(TypeError, Mail, PLAN, "king", KEYS, digest, 3)
        mail = mail_of(FIRST)
        mail.send(0, 1)
        self.assertRaises(TypeError, mail.come, 0, 1, 0)
        self.assertRaises(TypeError, mail.lose, 0, 1, 0)

    def test_keys_changed_later(self):
        keys = dict(KEYS)
        mail = Mail(PLAN, "king", keys, digest)
        keys.clear()
        self.assertEqual([mail.book(k).known_keys() for k in range(3)], [KEYS] * 3)
        self.assertEqual(mail.twin().book(1).known_keys(), KEYS)


class Bringing(unittest.TestCase):
    def test_each_office_has_its_own_book(self):
        mail = mail_of(FIRST)
        self.assertEqual(mail.bring(0, FIRST), "known")
        self.assertEqual(mail.bring(2, FIRST), "new")
        self.assertEqual(mail.bring(2, THIRD), "new")
        self.assertEqual([mail.book(k).slips() for k in range(3)], [[FIRST], [], [THIRD, FIRST]])

    def test_no_office_then_no_slip(self):
        mail = mail_of(FIRST)
        kept = state(mail)
        for thing in [*anything(), 3, -1, slip_text(FIRST), list(FIRST)]:
            if not is_office(thing, 3):
                for slip in (FIRST, thing):
                    with self.assertRaises(NoOffice) as caught:
                        mail.bring(thing, slip)
                    self.assertIs(caught.exception.office, thing)
            self.assertRaises(NoSlip, mail.bring, 1, thing)
        self.assertEqual(state(mail), kept)

    def test_no_digest_is_asked(self):
        mail = mail_of(FIRST, SECOND, asked=never)
        self.assertEqual(mail.bring(0, FIRST), "known")
        self.assertEqual(mail.book(0).slips(), [FIRST, SECOND])


class Sending(unittest.TestCase):
    def test_the_first_page_has_no_slips(self):
        mail = mail_of(FIRST, THIRD)
        self.assertIsNone(mail.send(0, 1))
        self.assertEqual(mail.under_way(0, 1), [(marks_of(FIRST, THIRD), ())])
        self.assertEqual((mail.under_way(1, 0), mail.under_way(0, 2)), ([], []))
        mail.send(0, 1)
        mail.send(1, 0)
        self.assertEqual(mail.under_way(0, 1), [(marks_of(FIRST, THIRD), ())] * 2)
        self.assertEqual(mail.under_way(1, 0), [((), ())])

    def test_slips_of_the_days_that_are_unlike(self):
        mail = mail_of(FIRST, SECOND, THIRD, FOURTH)
        for slip in (FIRST, THIRD):
            mail.bring(1, slip)
        mail.send(1, 0)
        self.assertEqual(mail.come(1, 0), 0)
        mail.send(0, 1)
        page = mail.under_way(0, 1)[0]
        self.assertEqual(page, (marks_of(FIRST, SECOND, THIRD, FOURTH), (FOURTH, FIRST, SECOND)))
        self.assertEqual([type(part) for part in page], [tuple, tuple])
        self.assertEqual(mail.come(0, 1), 2)
        self.assertEqual(mail.book(1), mail.book(0))

    def test_what_was_told_of_days_without_slips_here(self):
        mail = mail_of(THIRD)
        mail.bring(1, FIRST)
        mail.send(1, 0)
        mail.come(1, 0)
        mail.send(0, 1)
        self.assertEqual(mail.under_way(0, 1), [(marks_of(THIRD), (THIRD,))])

    def test_an_empty_page_that_came_tells_that_none_was_heard(self):
        mail = mail_of(FIRST, THIRD)
        mail.send(1, 0)
        mail.come(1, 0)
        self.assertEqual(mail.last(0, 1), ())
        mail.send(0, 1)
        self.assertEqual(mail.under_way(0, 1), [(marks_of(FIRST, THIRD), (THIRD, FIRST))])
        mail.send(0, 2)
        self.assertEqual(mail.under_way(0, 2), [(marks_of(FIRST, THIRD), ())])

    def test_a_page_stays_as_it_was_sent(self):
        mail = mail_of(FIRST)
        mail.send(1, 0)
        mail.come(1, 0)
        mail.send(0, 1)
        mail.bring(0, THIRD)
        self.assertEqual(mail.under_way(0, 1), [(marks_of(FIRST), (FIRST,))])
        self.assertEqual(mail.come(0, 1), 1)
        self.assertEqual(mail.last(1, 0), marks_of(FIRST))

    def test_a_day_not_told_counts_nought(self):
        mail = mail_of(FIRST, asked=lambda text: 0)
        mail.send(1, 0)
        mail.come(1, 0)
        mail.send(0, 1)
        self.assertEqual(mail.under_way(0, 1), [(((3, 0),), ())])

    def test_a_new_list_each_time(self):
        mail = mail_of(FIRST)
        mail.send(0, 1)
        told = mail.under_way(0, 1)
        self.assertIs(type(told), list)
        told.clear()
        self.assertEqual(len(mail.under_way(0, 1)), 1)
        mail.under_way(0, 1).append(None)
        mail.send(0, 1)
        self.assertEqual(len(mail.under_way(0, 1)), 2)


class Coming(unittest.TestCase):
    def mail_with_pages(self):
        """A mail with three pages under way from 0 to 1, with one, two and three slips."""
        mail = mail_of()
        mail.send(1, 0)
        mail.come(1, 0)
        for slip in (FIRST, SECOND, THIRD):
            mail.bring(0, slip)
            mail.send(0, 1)
        return mail

    def test_how_many_were_new(self):
        mail = self.mail_with_pages()
        self.assertEqual([mail.come(0, 1) for _ in range(3)], [1, 1, 1])
        mail = self.mail_with_pages()
        self.assertEqual([mail.come(0, 1, at=k) for k in (2, 1, 0)], [3, 0, 0])
        mail = self.mail_with_pages()
        mail.bring(1, SECOND)
        self.assertEqual([mail.come(0, 1, at=1), mail.come(0, 1, at=1)], [1, 1])

    def test_by_place(self):
        mail = self.mail_with_pages()
        pages = mail.under_way(0, 1)
        mail.come(0, 1, at=1)
        self.assertEqual(mail.under_way(0, 1), [pages[0], pages[2]])
        self.assertEqual(mail.last(1, 0), pages[1][0])
        mail.come(0, 1, at=1)
        self.assertEqual(mail.under_way(0, 1), [pages[0]])
        self.assertEqual(mail.last(1, 0), pages[2][0])
        mail.come(0, 1)
        self.assertEqual((mail.under_way(0, 1), mail.last(1, 0)), ([], pages[0][0]))

    def test_kept(self):
        mail = self.mail_with_pages()
        pages = mail.under_way(0, 1)
        self.assertEqual(mail.come(0, 1, at=2, kept=True), 3)
        self.assertEqual(mail.under_way(0, 1), pages)
        self.assertEqual(mail.come(0, 1, at=2, kept=True), 0)
        self.assertEqual(mail.come(0, 1, kept=True), 0)
        self.assertEqual(mail.last(1, 0), pages[0][0])
        self.assertEqual(mail.come(0, 1, at=2), 0)
        self.assertEqual(mail.under_way(0, 1), pages[:2])

    def test_lost(self):
        mail = self.mail_with_pages()
        pages = mail.under_way(0, 1)
        last = mail.last(1, 0)
        self.assertIsNone(mail.lose(0, 1, at=1))
        self.assertEqual(mail.under_way(0, 1), [pages[0], pages[2]])
        mail.lose(0, 1)
        self.assertEqual(mail.under_way(0, 1), [pages[2]])
        self.assertEqual((mail.book(1).slips(), mail.last(1, 0)), ([], last))
        self.assertIsNone(last)

    def test_only_the_other_hears(self):
        mail = self.mail_with_pages()
        mail.come(0, 1, at=2)
        self.assertEqual([len(mail.book(k).slips()) for k in range(3)], [3, 3, 0])
        self.assertEqual(mail.last(0, 1), ())
        self.assertEqual([mail.last(one, other) for one, other in [(0, 2), (2, 0), (1, 2), (2, 1)]], [None] * 4)

    def test_no_page(self):
        mail = self.mail_with_pages()
        kept = state(mail)
        for call in (mail.come, mail.lose):
            for thing in [*anything(), 3, -1, -3, "0", (0,)]:
                if not is_office(thing, 3):
                    with self.subTest(thing=thing):
                        self.assertRaises(NoPage, call, 0, 1, at=thing)
            self.assertRaises(NoPage, call, 1, 0)
            self.assertRaises(NoPage, call, 0, 2, at=0)
        self.assertRaises(LotError, mail.come, 2, 1, kept=True)
        self.assertRaises(NoPage, mail.come, 0, 1, at=3, kept=True)
        self.assertEqual(state(mail), kept)

    def test_no_digest_is_asked(self):
        asked = [digest]
        mail = mail_of(FIRST, asked=lambda text: asked[0](text))
        mail.send(0, 1)
        asked[0] = never
        self.assertEqual(mail.come(0, 1), 0)


class NoOffices(unittest.TestCase):
    def test_of_anything(self):
        mail = mail_of(FIRST, offices=4)
        mail.send(0, 1)
        kept = state(mail, 4)
        for call in (mail.send, mail.under_way, mail.come, mail.lose, mail.last):
            for thing in [*anything(), 4, -1, -4, 5, "0", (0,)]:
                if not is_office(thing, 4):
                    with self.subTest(thing=thing):
                        self.refuses(thing, call, thing, 1)
                        self.refuses(thing, call, 0, thing)
                        self.refuses(thing, call, thing, thing)
                        self.refuses(9, call, 9, thing)
                        self.refuses(thing, mail.book, thing)
            for office in range(4):
                self.refuses(office, call, office, office)
        for call in (mail.come, mail.lose):
            self.refuses(4, call, 4, 9, at="x")
            self.refuses(9, call, 0, 9, at="x")
            self.refuses(0, call, 0, 0, at="x")
        self.assertEqual(state(mail, 4), kept)

    def refuses(self, office, call, *arguments, **more):
        with self.assertRaises(NoOffice) as caught:
            call(*arguments, **more)
        self.assertIs(caught.exception.office, office)


class Twins(unittest.TestCase):
    def test_books_go_their_own_way(self):
        mail = mail_of(FIRST)
        book = mail.book(0)
        self.assertEqual(book.hear(THIRD), "new")
        self.assertEqual(mail.book(0).slips(), [FIRST])
        mail.bring(0, SECOND)
        self.assertEqual(book.slips(), [THIRD, FIRST])

    def test_mails_go_their_own_way(self):
        mail = mail_of(FIRST, offices=4)
        mail.send(0, 1)
        mail.send(1, 0)
        mail.come(1, 0)
        other = mail.twin()
        self.assertIs(type(other), Mail)
        kept = state(mail, 4)
        self.assertEqual(state(other, 4), kept)
        self.assertRaises(NoOffice, other.book, 4)
        other.come(0, 1)
        other.bring(3, THIRD)
        other.send(0, 1)
        other.send(2, 1)
        self.assertEqual(state(mail, 4), kept)
        then = state(other, 4)
        self.assertNotEqual(then, kept)
        mail.lose(0, 1)
        mail.bring(2, FOURTH)
        mail.send(3, 2)
        mail.come(3, 2)
        self.assertEqual(state(other, 4), then)
        self.assertEqual(then[1][0], [(marks_of(FIRST), (FIRST,))])

    def test_a_twin_has_the_same_digest(self):
        mail = mail_of(FIRST, asked=lambda text: 5).twin()
        mail.send(0, 1)
        self.assertEqual(mail.under_way(0, 1), [(((3, 5),), ())])
        self.assertEqual((mail.book(0).plan(), mail.book(0).giver()), (PLAN, "king"))

    def test_the_parts_of_what_it_was_made_of(self):
        mail = Mail(PLAN, "ann", {"bob": "berry"}, digest, offices=5).twin()
        for office in range(5):
            book = mail.book(office)
            self.assertEqual((book.plan(), book.giver(), book.known_keys()), (PLAN, "ann", {"bob": "berry"}))


class Digests(unittest.TestCase):
    def test_one_that_raises(self):
        mail = mail_of(FIRST, THIRD, asked=broken)
        mail.send(1, 0)
        mail.come(1, 0)
        kept = state(mail)
        self.assertRaises(Broken, mail.send, 0, 1)
        self.assertRaises(Broken, mail.send, 0, 2)
        self.assertEqual(state(mail), kept)
        self.assertEqual(mail.under_way(0, 1), [])
        self.assertRaises(NoOffice, mail.send, 0, 0)
        self.assertRaises(NoOffice, mail.send, 0, 3)

    def test_one_that_raises_at_the_second_day(self):
        asked = []

        def shaky(text):
            asked.append(text)
            return broken(text) if len(asked) == 2 else digest(text)

        mail = mail_of(FIRST, THIRD, asked=shaky)
        self.assertRaises(Broken, mail.send, 0, 1)
        self.assertEqual(mail.under_way(0, 1), [])
        mail.send(0, 1)
        self.assertEqual(mail.under_way(0, 1), [(marks_of(FIRST, THIRD), ())])


class PlainMail:
    """What point [100] tells, reckoned by sets of slips: without marks."""

    def __init__(self, offices):
        self.books = [set() for _ in range(offices)]
        self.under_way = {two: [] for two in itertools.permutations(range(offices), 2)}
        self.last = dict.fromkeys(self.under_way)

    def by_days(self, office):
        days = {}
        for slip in self.books[office]:
            days.setdefault(slip[3], set()).add(slip)
        return days

    def send(self, one, other):
        now, told = self.by_days(one), self.last[one, other]
        slips = [] if told is None else [slip for day in now if now[day] != told.get(day) for slip in now[day]]
        self.under_way[one, other].append((now, tuple(sorted(slips, key=slip_text))))

    def come(self, one, other, at, kept):
        now, slips = self.under_way[one, other][at]
        if not kept:
            self.lose(one, other, at)
        new = len(set(slips) - self.books[other])
        self.books[other] |= set(slips)
        self.last[other, one] = now
        return new

    def lose(self, one, other, at):
        del self.under_way[one, other][at]

    def marks(self, days):
        if days is None:
            return None
        return tuple([(day, digest("\n".join(sorted(map(slip_text, days[day]))))) for day in sorted(days)])


class Rounds(unittest.TestCase):
    def some_steps(self, chance, mail, plain, slips, many):
        """Lets the mail and its plain likeness do so many like things, and holds them against each other."""
        offices = len(plain.books)
        for _ in range(many):
            one, other = chance.sample(range(offices), 2)
            pages = plain.under_way[one, other]
            what = chance.choice(["bring", "send", "send", "come", "come", "lose"])
            if what == "bring":
                slip = chance.choice(slips)
                self.assertEqual(mail.bring(one, slip), "known" if slip in plain.books[one] else "new")
                plain.books[one].add(slip)
            elif what == "send":
                mail.send(one, other)
                plain.send(one, other)
            elif pages:
                at, kept = chance.randrange(len(pages)), chance.random() < 0.3
                if what == "come":
                    self.assertEqual(mail.come(one, other, at=at, kept=kept), plain.come(one, other, at, kept))
                else:
                    mail.lose(one, other, at=at)
                    plain.lose(one, other, at)

    def are_alike(self, mail, plain):
        for office, slips in enumerate(plain.books):
            self.assertEqual(mail.book(office).slips(), sorted(slips, key=slip_text))
        for (one, other), pages in plain.under_way.items():
            self.assertEqual(mail.under_way(one, other), [(plain.marks(days), slips) for days, slips in pages])
            self.assertEqual(mail.last(one, other), plain.marks(plain.last[one, other]))

    def test_against_plain_reckoning(self):
        for seed in range(40):
            chance = random.Random(seed)
            offices = 2 + seed % 4
            mail, plain = Mail(PLAN, "king", KEYS, digest, offices=offices), PlainMail(offices)
            slips = history(seed, 12)
            for _ in range(6):
                self.some_steps(chance, mail, plain, slips, 15)
                self.are_alike(mail, plain)

    def test_behind_three_rounds_all_books_are_equal(self):
        for seed in range(30):
            chance = random.Random(seed)
            offices = 2 + seed % 4
            mail, plain = Mail(PLAN, "king", KEYS, digest, offices=offices), PlainMail(offices)
            self.some_steps(chance, mail, plain, history(seed, 12), 60)
            heard = set().union(*plain.books)
            for _ in range(3):
                self.round(chance, mail, offices)
            for office in range(offices):
                self.assertEqual(mail.book(office), mail.book(0))
                self.assertEqual(set(mail.book(office).slips()), heard)
            self.round(chance, mail, offices)
            self.assertEqual(set(mail.book(0).slips()), heard)

    def round(self, chance, mail, offices):
        """Each sends to each other, and all pages come, in any order."""
        ends = list(itertools.permutations(range(offices), 2))
        for two in chance.sample(ends, len(ends)):
            mail.send(*two)
        for two in chance.sample(ends, len(ends)):
            while mail.under_way(*two):
                mail.come(*two, at=chance.randrange(len(mail.under_way(*two))))

    def test_a_page_has_no_slips_but_of_days_that_are_unlike(self):
        for seed in range(20):
            chance = random.Random(seed)
            mail, slips = mail_of(), history(seed, 10)
            for slip in slips:
                for office in range(3):
                    if chance.random() < 0.6:
                        mail.bring(office, slip)
            mail.send(1, 0)
            mail.come(1, 0)
            mail.send(0, 1)
            here, there = mail.book(0), mail.book(1)
            unlike = [day for day in range(61) if here.mark(day) != there.mark(day)]
            told = mail.under_way(0, 1)[0][1]
            self.assertEqual(list(told), [slip for slip in here.slips() if slip[3] in unlike])


if __name__ == "__main__":
    unittest.main()
