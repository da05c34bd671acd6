"""Titles: the deeds by which a lot came to be what it is, and the land that some deeds alone make."""

from lothouse.errors import NoLot, NoSlip
from lothouse.kinds import is_whole
from lothouse.land import Land
from lothouse.plans import is_name


def _in_order(bodies, pairs):
    """The pairs, each once, in the order in which their deeds are done."""
    return [pair for _, pair in sorted(set([(bodies[pair][3], pair) for pair in pairs]))]


def _enter(titles, pair, deed):
    """Puts a deed that is done down in the titles of all lots that it changes; a pair may come to stand there twice."""
    word, lot = deed[:2]
    if word == "grant":
        titles[lot] = [pair]
    elif word == "join":
        titles[lot] = [*titles[lot], *titles.pop(deed[2]), pair]
    elif word not in ("way", "close"):
        titles[lot] = [*titles[lot], pair]
    if word == "split":
        titles[deed[2]] = titles[lot]


def _titles(book, day):
    """The titles of all lots of that day, by their names, as lists of pairs in any order."""
    bodies = book.bodies()
    done = [pair for pair, word in book.words(day).items() if word == "done"]
    titles = {}
    for pair in _in_order(bodies, done):
        _enter(titles, pair, bodies[pair][4])
    return titles


def title(book, lot, day):
    """The pairs (hand, number) of all done deeds by which a lot is what it is on that day, as they are done."""
    if not is_name(lot):
        raise NoLot(lot)
    titles = _titles(book, day)
    if lot not in titles:
        raise NoLot(lot)
    return tuple(_in_order(book.bodies(), titles[lot]))


def _is_heard(bodies, thing):
    """Whether thing, which may be anything, is a pair of which just one body was heard."""
    if not isinstance(thing, (list, tuple)) or len(thing) != 2:
        return False
    hand, number = thing
    return is_name(hand) and is_whole(number) and bodies.get((hand, number)) is not None


def regained(book, pairs):
    """The land that the deeds of these pairs make alone, whatever their words are and whoever sealed them."""
    bodies = book.bodies()
    if not isinstance(pairs, (list, tuple)) or not all([_is_heard(bodies, pair) for pair in pairs]):
        raise NoSlip("only what was heard, and with one body, is done again")
    land = Land(book.plan(), book.giver())
    for pair in _in_order(bodies, [(hand, number) for hand, number in pairs]):
        land.do(bodies[pair][4])
    return land
