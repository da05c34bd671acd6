"""Books: the slips that an office has heard, and what they make of the land on each day, in whatever order heard."""

from lothouse.errors import NoDay, NoKey, NoSlip
from lothouse.kinds import is_within
from lothouse.land import Land
from lothouse.plans import is_name
from lothouse.slips import are_two, is_key, is_sealed, is_slip, slip_text

_LAST_DAY = 60


def _are_keys(thing):
    """Whether thing, which may be anything, is a dict from names to keys."""
    return isinstance(thing, dict) and all([is_name(name) and is_key(key) for name, key in thing.items()])


def is_day(thing):
    """Whether thing, which may be anything, is a day that can be asked for."""
    return is_within(thing, 0, _LAST_DAY)


def _check_day(day):
    """Refuses what is no day that can be asked for."""
    if not is_day(day):
        raise NoDay(day)


def _by_pairs(slips):
    """The slips of each pair of hand and number, the pairs rising."""
    found = {}
    for slip in slips:
        found.setdefault(slip[1:3], []).append(slip)
    return {pair: found[pair] for pair in sorted(found)}


def _of_one_body(slips):
    """The first of a pair's slips, None where they have unlike bodies."""
    return None if any([are_two(slips[0], slip) for slip in slips]) else slips[0]


def _early_word(pair, days, day):
    """The word that a pair has by its own and the lesser numbers' slips alone, None where its deed's turn comes."""
    hand, number = pair
    lesser = [(hand, other) for other in range(1, number)]
    if days[pair] is None:
        return "struck"
    if any([other not in days for other in lesser]):
        return "waits"
    if any([days[other] is not None and days[other] > days[pair] for other in lesser]):
        return "untimely"
    return "later" if days[pair] > day else None


def _differing(now, then):
    """The rising list of (name, what it is now, what it is then), None where there is none, of what differs."""
    names = sorted(set([*now, *then]))
    return [(name, now.get(name), then.get(name)) for name in names if now.get(name) != then.get(name)]


class Book:
    """The slips that were heard, by their texts, and what is told by them of any day."""

    def __init__(self, plan, giver, keys, digest):
        if not _are_keys(keys):
            raise NoKey("a book has a dict from names to keys")
        self._plan = plan
        self._giver = giver
        self._keys = dict(keys)
        self._digest = digest
        self._slips = {}

    def __eq__(self, other):
        if not isinstance(other, Book) or self._plan != other._plan or self._giver != other._giver:
            return False
        return self._keys == other._keys and self._slips == other._slips

    def hear(self, slip):
        """Takes up a slip: "new", or "known" where it was heard before."""
        text = slip_text(slip)
        if text in self._slips:
            return "known"
        self._slips[text] = slip
        return "new"

    def slips(self):
        """The list of all slips, rising by their texts."""
        return [self._slips[text] for text in sorted(self._slips)]

    def plan(self):
        """The plan."""
        return self._plan

    def giver(self):
        """The name of the one who grants."""
        return self._giver

    def known_keys(self):
        """The keys by their names."""
        return dict(self._keys)

    def bodies(self):
        """For each (hand, number) of which slips were heard, rising, one of these: None where bodies are unlike."""
        return {pair: _of_one_body(slips) for pair, slips in _by_pairs(self.slips()).items()}

    def words(self, day):
        """The word on that day of each (hand, number) of which slips were heard, these rising."""
        _check_day(day)
        return self._reckoned(day)[0]

    def land(self, day):
        """The land behind all that is done on that day."""
        _check_day(day)
        return self._reckoned(day)[1]

    def _reckoned(self, day):
        """The words and the land of a day."""
        groups = _by_pairs(self.slips())
        days = {pair: None if slip is None else slip[3] for pair, slip in self.bodies().items()}
        words = {pair: _early_word(pair, days, day) for pair in groups}
        land = Land(self._plan, self._giver)
        for _, pair in sorted([(days[pair], pair) for pair in groups if words[pair] is None]):
            words[pair] = self._tried(land, groups[pair])
        return words, land

    def _tried(self, land, slips):
        """Does the deed of one body's slips where it can be done and is sealed: its word."""
        _, hand, _, _, deed, _ = slips[0]
        needed = land.needed(deed)
        if needed is None:
            return "void"
        if not all([self._has_sealed(name, slips) for name in [*needed, hand]]):
            return "unsealed"
        land.do(deed)
        return "done"

    def _has_sealed(self, name, slips):
        """Whether one of the slips has the right mark of a name."""
        return name in self._keys and any([is_sealed(slip, name, self._keys[name], self._digest) for slip in slips])

    def mark(self, day):
        """The digest's of all slips of that day, 0 where none was heard."""
        _check_day(day)
        texts = [text for text in sorted(self._slips) if self._slips[text][3] == day]
        if len(texts) == 0:
            return 0
        digest = self._digest
        return digest("\n".join(texts))

    def marks(self):
        """The tuple of (day, mark) of all days with slips, rising."""
        days = sorted(set([slip[3] for slip in self._slips.values()]))
        return tuple([(day, self.mark(day)) for day in days])

    def ripple(self, slip, day):
        """What of that day's words and lots would be otherwise, were a slip heard too."""
        if not is_slip(slip):
            raise NoSlip("only a slip is heard")
        _check_day(day)
        other = self.twin()
        other.hear(slip)
        words, land = self._reckoned(day)
        other_words, other_land = other._reckoned(day)
        return _differing(words, other_words), _differing(land.lots(), other_land.lots())

    def twin(self):
        """A book that is like this one now, and goes its own way."""
        other = Book(self._plan, self._giver, self._keys, self._digest)
        other._slips = dict(self._slips)
        return other
