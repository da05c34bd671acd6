"""The refusals of the program: one class for each kind of them."""


class LotError(ValueError):
    """What all refusals of the program are."""


class NoPlan(LotError):
    """What was handed in makes no plan, or is none."""


class NoLine(LotError):
    """The plan has no such line: line is what was handed in."""

    def __init__(self, line):
        self.line = line


class NoSight(LotError):
    """There is no such sight: number is the one it was asked by."""

    def __init__(self, number):
        self.number = number


class NoGround(LotError):
    """The sights let no ground be: steps is a ring that tells so."""

    def __init__(self, steps):
        self.steps = steps


class NoPoint(LotError):
    """What was handed in is no point of the plan."""


class NoShare(LotError):
    """That part of a holding can't be passed on."""


class NoDeed(LotError):
    """What was handed in is no deed, or can't be done."""


class NoLot(LotError):
    """There is no such lot: name is what was handed in."""

    def __init__(self, name):
        self.name = name


class NoSlip(LotError):
    """What was handed in is no slip."""


class NoKey(LotError):
    """What was handed in is no key, or no dict from names to keys."""


class NoDay(LotError):
    """There is no such day: day is what was handed in."""

    def __init__(self, day):
        self.day = day


class NoOffice(LotError):
    """There is no such office: office is what was handed in."""

    def __init__(self, office):
        self.office = office


class NoPage(LotError):
    """No such page is under way."""


class NoWindow(LotError):
    """What was handed in is no window, block, scale or sheet that fits."""


class NoText(LotError):
    """A text is of no such form: row is the first row that isn't."""

    def __init__(self, row):
        self.row = row
