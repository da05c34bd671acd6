"""Things of all kinds that the document calls "anything", for the tests of what takes anything."""


def nested(kind, depth):
    """An empty list, tuple or dict within depth others of its kind."""
    thing = kind()
    for _ in range(depth):
        thing = {"a": thing} if kind is dict else kind([thing])
    return thing


def anything():
    """New things of each kind, which are no name, no line, no list of names, no region and no sight."""
    return [
        0, 1, -1, 2, 10 ** 9, -10 ** 9, 10 ** 39, -10 ** 39,
        True, False, None,
        "", " ", "A", "a ", " a", "a1", "1", "a b", "a-b", "abcdefghi", "\n", "a\n", "~",
        [], [None], [0], [True], [[]], ["A"], [1, 2], ["a"], [0, 0], [[0, 0]], [(0, 0)],
        (), (None,), (0,), (True,), ((),), ("A",), (1, 2), ("a",), (0, 0),
        {}, {"a": 1}, {0: "a"}, {(0, 0): True}, {"a": {}},
        nested(list, 20), nested(tuple, 20), nested(dict, 20),
    ]


def _others(thing):
    """What may wrongly stand in a thing's place: some are near it."""
    found = [None, True, False, "", "a", "x", "most", 0, 1, -1, 3, (), ("a", 1), [], {}, [thing], (thing,)]
    if isinstance(thing, int):
        found += [thing + 1, thing - 1, -thing, bool(thing), str(thing)]
    if isinstance(thing, str):
        found += [thing + "a", thing[:-1], thing.upper(), [thing]]
    if isinstance(thing, (list, tuple)):
        found += [list(thing), thing[:-1], thing[1:], (*thing, None), (*thing, *thing), thing[::-1]]
    if isinstance(thing, dict):
        found += [list(thing.items()), {**thing, "x": 1}, {**thing, None: 1}]
        found += [{other: worth for other, worth in thing.items() if other != key} for key in thing]
    return found


def spoilt(thing):
    """Things that are a thing with another one in one of its places: all that differ from it, truths from numbers too."""
    found = _others(thing)
    if isinstance(thing, (list, tuple)):
        found += [type(thing)([*thing[:k], other, *thing[k + 1:]]) for k, part in enumerate(thing) for other in spoilt(part)]
    if isinstance(thing, dict):
        found += [{**thing, key: other} for key, part in thing.items() for other in spoilt(part)]
    return [other for other in found if repr(other) != repr(thing)]
