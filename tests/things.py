"""Things of all kinds that the document calls "anything", for the tests of what takes anything."""


def nested(kind, depth):
    """An empty list, tuple or dict within depth others of its kind."""
    thing = kind()
    for _ in range(depth):
        thing = {"a": thing} if kind is dict else kind([thing])
    return thing


def anything():
    """New things of each kind, which are no name, no line, no list of names, no region and no sight."""
    return [
        0, 1, -1, 2, 10 ** 9, -10 ** 9, 10 ** 39, -10 ** 39,
        True, False, None,
        "", " ", "A", "a ", " a", "a1", "1", "a b", "a-b", "abcdefghi", "\n", "a\n", "~",
        [], [None], [0], [True], [[]], ["A"], [1, 2], ["a"], [0, 0], [[0, 0]], [(0, 0)],
        (), (None,), (0,), (True,), ((),), ("A",), (1, 2), ("a",), (0, 0),
        {}, {"a": 1}, {0: "a"}, {(0, 0): True}, {"a": {}},
        nested(list, 20), nested(tuple, 20), nested(dict, 20),
    ]
