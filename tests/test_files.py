"""The files of the package: what the document lists stands where it says, by rules that can be counted."""

import ast
import importlib
import pathlib
import unittest
import warnings

PACKAGE = pathlib.Path(__file__).resolve().parent.parent / "lothouse"

# For each file its functions with their arguments, and its classes with their methods and these' arguments; those
# that go by name alone have a star.
FUNCTIONS = {
    "plans": {"is_name": ["thing"]},
    "cells": {
        "is_region": ["plan", "thing"], "is_piece": ["plan", "thing"], "pieces": ["cells"],
        "both": ["one", "other"], "less": ["one", "other"],
    },
    "sights": {"is_sight": ["plan", "thing"]},
    "points": {
        "is_point": ["plan", "thing"], "lies": ["plan", "ground", "point"], "may_lie": ["net", "point"],
        "ground_at": ["net", "point", "column", "row"], "bounds": ["net", "point"],
        "is_bounds": ["net", "point", "thing"],
    },
    "borders": {
        "sides": ["cells"], "rings": ["cells"], "ring_sides": ["ring"], "inside": ["rings"],
        "between": ["one", "other"],
    },
    "shares": {
        "is_fraction": ["thing"], "is_holding": ["thing"], "sole": ["name"], "held": ["holding", "name"],
        "passed": ["holding", "giver", "taker", "part"],
    },
    "deeds": {"is_deed": ["thing"], "deed_text": ["deed"], "read_deed": ["text"]},
    "slips": {
        "is_slip": ["thing"], "is_key": ["thing"], "body_text": ["slip"], "slip_text": ["slip"], "read_slip": ["text"],
        "sealed": ["slip", "name", "key", "digest"], "is_sealed": ["slip", "name", "key", "digest"],
        "are_two": ["one", "other"],
    },
    "titles": {"title": ["book", "lot", "day"], "regained": ["book", "pairs"]},
    "sheets": {
        "block": ["land", "scale", "a", "b"], "sheet": ["land", "window", "*scale"],
        "lined": ["land", "window", "*scale"], "beside": ["west", "east"], "above": ["north", "south"],
        "sheet_text": ["sheet"],
    },
    "answers": {
        "whose": ["net", "land", "point"], "way_over": ["net", "land", "point"],
        "is_whose": ["net", "land", "point", "thing"],
    },
    "judging": {"kept": ["house", "office"], "judged": ["record", "digest"]},
    "texts": {
        "sight_text": ["sight"], "read_sight": ["text"], "point_text": ["point"], "read_point": ["text"],
        "plan_text": ["plan"], "read_plan": ["text"],
    },
}
CLASSES = {
    "plans": {
        "Plan": {
            "__init__": ["self", "uprights", "levels"], "uprights": ["self"], "levels": ["self"],
            "lines": ["self", "family"], "family": ["self", "line"], "cells": ["self"],
            "__len__": ["self"], "__eq__": ["self", "other"],
        },
    },
    "nets": {
        "Net": {
            "__init__": ["self", "plan", "sights"], "plan": ["self"], "sights": ["self"], "ring": ["self"],
            "most": ["self", "one", "other"], "least": ["self", "one", "other"], "way": ["self", "one", "other"],
            "ground": ["self", "*more"], "is_way": ["self", "one", "other", "thing"], "is_ring": ["self", "thing"],
            "is_ground": ["self", "thing"], "worth": ["self", "way"],
        },
    },
    "land": {
        "Land": {
            "__init__": ["self", "plan", "giver"], "plan": ["self"], "giver": ["self"], "lots": ["self"],
            "lot": ["self", "name"], "lot_at": ["self", "cell"], "ways": ["self"], "twin": ["self"],
            "__eq__": ["self", "other"], "needed": ["self", "deed"], "do": ["self", "deed"],
        },
    },
    "books": {
        "Book": {
            "__init__": ["self", "plan", "giver", "keys", "digest"], "hear": ["self", "slip"], "slips": ["self"],
            "plan": ["self"], "giver": ["self"], "known_keys": ["self"], "words": ["self", "day"],
            "land": ["self", "day"], "mark": ["self", "day"], "marks": ["self"], "ripple": ["self", "slip", "day"],
            "twin": ["self"], "__eq__": ["self", "other"],
        },
    },
    "mail": {
        "Mail": {
            "__init__": ["self", "plan", "giver", "keys", "digest", "*offices"], "bring": ["self", "office", "slip"],
            "send": ["self", "one", "other"], "under_way": ["self", "one", "other"],
            "come": ["self", "one", "other", "*at", "*kept"], "lose": ["self", "one", "other", "*at"],
            "book": ["self", "office"], "last": ["self", "office", "other"], "twin": ["self"],
        },
    },
    "houses": {
        "House": {
            "__init__": ["self", "plan", "giver", "keys", "digest", "*offices"], "sight": ["self", "sight"],
            "strike": ["self", "number"], "bring": ["self", "office", "slip"], "send": ["self", "one", "other"],
            "come": ["self", "one", "other", "*at", "*kept"], "lose": ["self", "one", "other", "*at"], "net": ["self"],
            "mail": ["self"], "ask": ["self", "point", "*office", "*day"], "far": ["self", "one", "other"],
            "log": ["self"], "busy": ["self"],
        },
    },
    "desk": {"Desk": {"__init__": ["self", "digest"], "say": ["self", "row"]}},
}


def sources():
    return sorted(PACKAGE.rglob("*.py"))


def tree(name):
    return ast.parse((PACKAGE / (name + ".py")).read_text(encoding="utf-8"))


def arguments(body):
    """The names of the defs in a body, each with those of its arguments."""
    found = {}
    for part in body:
        if isinstance(part, ast.FunctionDef):
            found[part.name] = [arg.arg for arg in part.args.args] + ["*" + arg.arg for arg in part.args.kwonlyargs]
    return found


class Interface(unittest.TestCase):
    def test_functions_stand_in_their_files(self):
        for name, functions in FUNCTIONS.items():
            found = arguments(tree(name).body)
            for function, names in functions.items():
                self.assertEqual(found.get(function), names)

    def test_methods_stand_in_their_classes(self):
        for name, classes in CLASSES.items():
            bodies = {part.name: part.body for part in tree(name).body if isinstance(part, ast.ClassDef)}
            for made, methods in classes.items():
                found = arguments(bodies[made])
                for method, names in methods.items():
                    self.assertEqual(found.get(method), names)

    def test_files_are_imported_by_their_names(self):
        for name in ["errors", *FUNCTIONS, *CLASSES]:
            self.assertEqual(importlib.import_module("lothouse." + name).__name__, "lothouse." + name)


class Sizes(unittest.TestCase):
    def test_only_python_files(self):
        others = [path for path in PACKAGE.rglob("*") if path.suffix != ".py" and "__pycache__" not in path.parts]
        self.assertEqual(others, [])

    def test_the_init_is_empty(self):
        self.assertEqual((PACKAGE / "__init__.py").read_text(), "")

    def test_signs_and_lines(self):
        for path in sources():
            lines = path.read_text(encoding="utf-8").split("\n")
            self.assertLess(len(lines) - 1, 400, path)
            for line in lines:
                self.assertLessEqual(len(line), 120, path)
                self.assertTrue(all(" " <= sign <= "~" for sign in line), (path, line))

    def test_functions_are_short(self):
        for path in sources():
            for part in ast.walk(ast.parse(path.read_text(encoding="utf-8"))):
                if isinstance(part, ast.FunctionDef):
                    self.assertLessEqual(part.end_lineno - part.lineno + 1, 40, (path, part.name))

    def test_python_gives_no_warning(self):
        with warnings.catch_warnings():
            warnings.simplefilter("error")
            for path in sources():
                compile(path.read_text(encoding="utf-8"), str(path), "exec")


if __name__ == "__main__":
    unittest.main()
