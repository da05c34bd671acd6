"""Offices, each with its book, and the pages that they send to each other."""

from lothouse.books import Book
from lothouse.errors import NoOffice, NoPage
from lothouse.kinds import is_within


class Mail:
    """The books of some offices, the pages under way between them, and what each was told last by each other."""

    def __init__(self, plan, giver, keys, digest, *, offices=3):
        book = Book(plan, giver, keys, digest)
        if not is_within(offices, 2, 5):
            raise NoOffice(offices)
        self._digest = digest
        self._books = [book.twin() for _ in range(offices)]
        self._under_way = {(one, other): [] for one in range(offices) for other in range(offices)}
        self._last = {}

    def _check(self, office):
        """Refuses what is no office."""
        if not is_within(office, 0, len(self._books) - 1):
            raise NoOffice(office)

    def _check_ends(self, one, other):
        """Refuses what are no two offices."""
        self._check(one)
        self._check(other)
        if one == other:
            raise NoOffice(other)

    def bring(self, office, slip):
        """Lets an office hear a slip: "new", or "known" where it heard it before."""
        self._check(office)
        return self._books[office].hear(slip)

    def send(self, one, other):
        """Puts a page from one office to another under way."""
        self._check_ends(one, other)
        page = self._page(one, other)
        self._under_way[(one, other)].append(page)

    def _page(self, one, other):
        """The marks of one's book, and the slips of which the other, by what it told last, hasn't heard."""
        marks = self._books[one].marks()
        told = self.last(one, other)
        if told is None:
            return marks, ()
        known = {day: mark for day, mark in told}
        unlike = [day for day, mark in marks if mark != known.get(day, 0)]
        return marks, tuple([slip for slip in self._books[one].slips() if slip[3] in unlike])

    def under_way(self, one, other):
        """The pages that are under way from one office to another, as they were sent."""
        self._check_ends(one, other)
        return list(self._under_way[(one, other)])

    def _check_page(self, one, other, at):
        """Refuses what is no place of a page under way."""
        self._check_ends(one, other)
        if not is_within(at, 0, len(self._under_way[(one, other)]) - 1):
            raise NoPage("no such page is under way")

    def come(self, one, other, *, at=0, kept=False):
        """Lets a page come to the other office, which hears its slips: how many of them were new."""
        self._check_page(one, other, at)
        marks, slips = self._under_way[(one, other)][at]
        if not kept:
            del self._under_way[(one, other)][at]
        self._last[(other, one)] = marks
        new = 0
        for slip in slips:
            if self._books[other].hear(slip) == "new":
                new += 1
        return new

    def lose(self, one, other, *, at=0):
        """Lets a page be lost."""
        self._check_page(one, other, at)
        del self._under_way[(one, other)][at]

    def book(self, office):
        """A twin of an office's book."""
        self._check(office)
        return self._books[office].twin()

    def last(self, office, other):
        """The marks of the page from the other office that came last, None where none came yet."""
        self._check_ends(office, other)
        return self._last.get((office, other))

    def twin(self):
        """Offices, books and pages that are like these now, and go their own way."""
        first = self._books[0]
        other = Mail(first.plan(), first.giver(), first.known_keys(), self._digest, offices=len(self._books))
        other._books = [book.twin() for book in self._books]
        other._under_way = {ends: list(pages) for ends, pages in self._under_way.items()}
        other._last = {ends: marks for ends, marks in self._last.items()}
        return other
