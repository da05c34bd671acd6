"""Records of what was seen, heard and told, and the judge who tells from a record alone where it isn't so."""

from lothouse.answers import is_whose
from lothouse.books import Book, is_day
from lothouse.kinds import is_rising, is_whole, is_within
from lothouse.nets import LAST_NUMBER, MOST_SIGHTS, Net
from lothouse.plans import Plan, are_families, is_name
from lothouse.points import is_point
from lothouse.sights import are_akin, is_sight
from lothouse.slips import is_key, is_slip
from lothouse.titles import title

# How long a row is, by its word.
_LENGTHS = {"sight": 3, "strike": 2, "slip": 2, "asked": 4, "far": 4, "title": 4}


def kept(house, office):
    """The record of a house's sights that stand and of the slips in an office's book."""
    book = house.mail().book(office)
    plan = book.plan()
    head = (plan.uprights(), plan.levels(), book.giver(), tuple(sorted(book.known_keys().items())))
    sights = [("sight", number, sight) for number, sight in house.net().sights().items()]
    return head, (*sights, *[("slip", slip) for slip in book.slips()])


def _is_known(thing):
    """Whether thing, which may be anything, is a pair of a name and a key."""
    return isinstance(thing, tuple) and len(thing) == 2 and is_name(thing[0]) and is_key(thing[1])


def _are_keys(thing):
    """Whether thing, which may be anything, is a tuple of names with their keys, the names rising."""
    if not isinstance(thing, tuple) or not all([_is_known(pair) for pair in thing]):
        return False
    return is_rising([name for name, _ in thing])


def _is_head(thing):
    """Whether thing, which may be anything, may stand ahead of a record's rows."""
    if not isinstance(thing, tuple) or len(thing) != 4:
        return False
    uprights, levels, giver, keys = thing
    if not isinstance(uprights, tuple) or not isinstance(levels, tuple) or not are_families(uprights, levels):
        return False
    return is_name(giver) and _are_keys(keys)


def _is_record(thing):
    """Whether thing, which may be anything, is a head and a tuple of rows, whatever these are."""
    return isinstance(thing, tuple) and len(thing) == 2 and _is_head(thing[0]) and isinstance(thing[1], tuple)


def _are_pairs(thing, pairs):
    """Whether thing, which may be anything, is just these pairs: a truth equals a number, but is none."""
    return thing == pairs and all([is_whole(number) for _, number in thing])


def _is_distance(thing, distance):
    """Whether thing, which may be anything, is just that distance, None where there is none."""
    if distance is None:
        return thing is None
    return is_whole(thing) and thing == distance


def _leads(net, one, other, thing):
    """Whether thing, which may be anything, is a way worth the greatest distance, None where there is none."""
    most = net.most(one, other)
    if most is None:
        return thing is None
    return net.is_way(one, other, thing) and net.worth(thing) == most


class Judge:
    """What the rows of a record, one behind the other, tell."""

    def __init__(self, plan, giver, keys, digest):
        self._plan = plan
        self._book = Book(plan, giver, keys, digest)
        self._sights = {}
        self._ever = {}

    def lets_by(self, row):
        """Whether a row, which may be anything, is so by all ahead; what it brings counts for those that follow."""
        if not isinstance(row, tuple) or len(row) == 0 or not isinstance(row[0], str):
            return False
        if len(row) != _LENGTHS.get(row[0]):
            return False
        checks = {
            "sight": self._sighted, "strike": self._struck, "slip": self._heard,
            "asked": self._asked, "far": self._measured, "title": self._entitled,
        }
        check = checks[row[0]]
        parts = row[1:]
        return check(*parts)

    def _sighted(self, number, sight):
        if not is_within(number, 1, LAST_NUMBER) or number in self._ever or len(self._sights) == MOST_SIGHTS:
            return False
        if not is_sight(self._plan, sight):
            return False
        self._ever[number] = True
        self._sights[number] = sight
        return True

    def _struck(self, number):
        if not is_whole(number) or number not in self._sights:
            return False
        del self._sights[number]
        return True

    def _heard(self, slip):
        if not is_slip(slip):
            return False
        self._book.hear(slip)
        return True

    def _asked(self, point, day, answer):
        if not is_point(self._plan, point) or not is_day(day):
            return False
        if not is_whose(Net(self._plan, self._sights), self._book.land(day), point, answer):
            return False
        if answer[0] != "one":
            return True
        lot, pairs = answer[1], answer[3]
        return _are_pairs(pairs, () if lot is None else title(self._book, lot, day))

    def _measured(self, one, other, answer):
        if not are_akin(self._plan, one, other) or not isinstance(answer, tuple) or len(answer) != 4:
            return False
        net = Net(self._plan, self._sights)
        if net.ring() is not None:
            return False
        least, most, back, way = answer
        if not _is_distance(least, net.least(one, other)) or not _is_distance(most, net.most(one, other)):
            return False
        return _leads(net, other, one, back) and _leads(net, one, other, way)

    def _entitled(self, lot, day, pairs):
        if not is_name(lot) or not is_day(day) or lot not in self._book.land(day).lots():
            return False
        return _are_pairs(pairs, title(self._book, lot, day))


def judged(record, digest):
    """None, or the number of the first row that isn't so; -1 of what is no record."""
    if not _is_record(record):
        return -1
    head, rows = record
    uprights, levels, giver, keys = head
    judge = Judge(Plan(uprights, levels), giver, {name: key for name, key in keys}, digest)
    for k, row in enumerate(rows):
        if not judge.lets_by(row):
            return k
    return None
