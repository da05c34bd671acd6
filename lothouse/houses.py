"""The house: the sights and the mail of one plan, led by deeds of which a log is kept."""

from lothouse.answers import whose
from lothouse.errors import NoSight
from lothouse.kinds import is_whole
from lothouse.mail import Mail
from lothouse.nets import LAST_NUMBER, MOST_SIGHTS, Net
from lothouse.points import check_point
from lothouse.sights import is_sight
from lothouse.titles import title


class House:
    """The sights that stand, by numbers, and the offices: and when which deed began and ended."""

    def __init__(self, plan, giver, keys, digest, *, offices=3):
        self._mail = Mail(plan, giver, keys, digest, offices=offices)
        self._plan = plan
        self._sights = {}
        self._last_number = 0
        self._log = []
        self._begun = 0

    def _logged(self, deed):
        """What a deed tells. It is noted when it begins and when it ends, whatever error comes."""
        self._begun += 1
        k = self._begun
        self._log.append(("begin", k))
        try:
            return deed()
        finally:
            self._log.append(("end", k))

    def sight(self, sight):
        """Takes up a sight: its number."""
        return self._logged(lambda: self._taken_up(sight))

    def _taken_up(self, sight):
        if not is_sight(self._plan, sight):
            raise NoSight(0)
        if len(self._sights) == MOST_SIGHTS:
            raise NoSight(MOST_SIGHTS + 1)
        if self._last_number == LAST_NUMBER:
            raise NoSight(LAST_NUMBER + 1)
        self._last_number += 1
        self._sights[self._last_number] = sight
        return self._last_number

    def strike(self, number):
        """Strikes the sight of that number, which isn't given again."""
        self._logged(lambda: self._struck(number))

    def _struck(self, number):
        if not is_whole(number) or number not in self._sights:
            raise NoSight(number)
        del self._sights[number]

    def bring(self, office, slip):
        """Lets an office hear a slip: "new", or "known" where it heard it before."""
        return self._logged(lambda: self._mail.bring(office, slip))

    def send(self, one, other):
        """Puts a page from one office to another under way."""
        self._logged(lambda: self._mail.send(one, other))

    def come(self, one, other, *, at=0, kept=False):
        """Lets a page come to the other office: how many of its slips were new there."""
        return self._logged(lambda: self._mail.come(one, other, at=at, kept=kept))

    def lose(self, one, other, *, at=0):
        """Lets a page be lost."""
        self._logged(lambda: self._mail.lose(one, other, at=at))

    def net(self):
        """The net of all sights that stand."""
        return Net(self._plan, self._sights)

    def mail(self):
        """A twin of the mail."""
        return self._mail.twin()

    def ask(self, point, *, office=0, day=60):
        """Whose a point is by an office's book of that day: where it is a lot's, with the lot's title."""
        net = self.net()
        check_point(net, point)
        book = self._mail.book(office)
        answer = whose(net, book.land(day), point)
        if answer[0] != "one" or answer[1] is None:
            return answer
        return *answer[:3], title(book, answer[1], day)

    def far(self, one, other):
        """The least and the greatest that other's less one's is, the way back and the way."""
        net = self.net()
        return net.least(one, other), net.most(one, other), net.way(other, one), net.way(one, other)

    def log(self):
        """When each deed, done or refused, began and ended: pairs of the word and the deed's number."""
        return list(self._log)

    def busy(self):
        """Whether a deed has begun that hasn't ended."""
        return len(self._log) < 2 * self._begun
