"""The desk: a house that is led and asked by rows of text."""

from lothouse.errors import LotError, NoText
from lothouse.houses import House
from lothouse.kinds import read_number
from lothouse.plans import Plan, is_name
from lothouse.sheets import sheet, sheet_text
from lothouse.slips import is_key, read_slip
from lothouse.texts import read_names, read_point, read_sight
from lothouse.titles import title

# What stands behind a row's first word: the last takes all words that are left, each other takes one.
_FORMS = {
    "key": ("name", "key"),
    "sight": ("sight",),
    "strike": ("number",),
    "bring": ("number", "slip"),
    "send": ("number", "number"),
    "come": ("number", "number"),
    "lose": ("number", "number"),
    "ask": ("number", "number", "point"),
    "far": ("name", "name"),
    "words": ("number", "number"),
    "title": ("number", "number", "name"),
    "map": ("number", "number"),
}


def _read_part(kind, text):
    """What a text tells as that kind of part, None where it is none."""
    try:
        if kind == "sight":
            return read_sight(text)
        if kind == "point":
            return read_point(text)
        if kind == "slip":
            return read_slip(text)
    except NoText:
        return None
    if kind == "number":
        return read_number(text)
    fits = is_name(text) if kind == "name" else is_key(text)
    return text if fits else None


def _read_parts(row):
    """What stands behind a row's first word, None where the row is of no form."""
    kinds = _FORMS.get(row.partition(" ")[0], ())
    words = row.split(" ", len(kinds))
    if len(kinds) == 0 or len(words) != len(kinds) + 1:
        return None
    parts = [_read_part(kind, word) for kind, word in zip(kinds, words[1:])]
    return None if None in parts else parts


def _read_head(row):
    """The uprights, the levels and the giver of a plan's row, None where it is of no such form."""
    word, _, rest = row.partition(" ")
    parts = [read_names(part) for part in rest.split(" / ")]
    if word != "plan" or len(parts) != 3 or None in parts or len(parts[2]) != 1:
        return None
    return parts[0], parts[1], parts[2][0]


def _sign(thing):
    """The text of a name or a number, `-` of None."""
    return "-" if thing is None else str(thing)


def _listed(texts):
    """The texts as one, `none` where there are none."""
    return ", ".join(texts) if len(texts) > 0 else "none"


class Desk:
    """A house of three offices, as soon as its plan is told."""

    def __init__(self, digest):
        self._digest = digest
        self._asking = False
        self._house = None
        self._head = None
        self._keys = {}
        self._takes_keys = True

    def say(self, row):
        """The answer to a row."""
        self._asking = False
        try:
            return self._answer(row if isinstance(row, str) else "")
        except LotError as e:
            # What the digest itself raises is no refusal of the house's: it passes on, whatever it is.
            if self._asking:
                raise
            return "no " + type(e).__name__.lower()

    def _mark(self, text):
        """The digest's mark of a text."""
        digest = self._digest
        self._asking = True
        mark = digest(text)
        self._asking = False
        return mark

    def _answer(self, row):
        """The answer to a row that isn't refused."""
        if self._house is None:
            return self._planned(row)
        parts = _read_parts(row)
        if parts is None:
            return "what"
        word = row.partition(" ")[0]
        if word == "key":
            return self._keyed(*parts)
        self._takes_keys = False
        house = self._house
        answers = {
            "sight": house.sight, "strike": house.strike, "bring": house.bring, "send": house.send, "come": house.come,
            "lose": house.lose, "ask": self._asked, "far": self._measured, "words": self._worded,
            "title": self._entitled, "map": self._mapped,
        }
        answer = answers[word]
        told = answer(*parts)
        return "ok" if told is None else str(told)

    def _planned(self, row):
        """The answer to a row ahead of the plan."""
        head = _read_head(row)
        if head is None:
            return "no plan"
        uprights, levels, giver = head
        self._head = (Plan(uprights, levels), giver)
        self._house = House(self._head[0], giver, {}, self._mark)
        return "ok"

    def _keyed(self, name, key):
        """The answer to a key's row: a house in which nothing was done yet is made anew with it."""
        if not self._takes_keys:
            return "what"
        plan, giver = self._head
        self._keys[name] = key
        self._house = House(plan, giver, self._keys, self._mark)
        return "ok"

    def _asked(self, office, day, point):
        answer = self._house.ask(point, office=office, day=day)
        if answer[0] == "none":
            return "none"
        lots = [answer[1]] if answer[0] == "one" else [answer[2], answer[4]]
        return " ".join([answer[0], *sorted([_sign(lot) for lot in lots])])

    def _measured(self, one, other):
        least, most, _, _ = self._house.far(one, other)
        return f"{_sign(least)} {_sign(most)}"

    def _book_of(self, office):
        """The book of an office."""
        return self._house.mail().book(office)

    def _worded(self, office, day):
        told = self._book_of(office).words(day)
        return _listed([f"{hand}.{number} {word}" for (hand, number), word in told.items()])

    def _entitled(self, office, day, lot):
        return _listed([f"{hand}.{number}" for hand, number in title(self._book_of(office), lot, day)])

    def _mapped(self, office, day):
        land = self._book_of(office).land(day)
        plan = land.plan()
        window = ((0, len(plan.uprights()) - 2), (0, len(plan.levels()) - 2))
        return sheet_text(sheet(land, window))[:-1].replace("\n", " / ")
