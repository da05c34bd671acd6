"""Texts of sights, points and plans, and what is read from such texts."""

from lothouse.errors import NoText
from lothouse.kinds import read_number, read_whole
from lothouse.plans import Plan, is_name

# The words at which the rows of a plan's text begin.
_ROWS = ("uprights", "levels")


def _reach_text(reach):
    """The word of a sight's least or most."""
    return "-" if reach is None else str(reach)


def sight_text(sight):
    """A sight's words with blanks between, `-` for None."""
    one, other, least, most = sight
    return " ".join([one, other, _reach_text(least), _reach_text(most)])


def read_sight(text):
    """What is written as a sight, whether it is one or not."""
    words = text.split(" ") if isinstance(text, str) else []
    if len(words) != 4 or not is_name(words[0]) or not is_name(words[1]):
        raise NoText(0)
    if not all([word == "-" or read_number(word) is not None for word in words[2:]]):
        raise NoText(0)
    # No number is read from `-`: so that is None.
    return words[0], words[1], read_number(words[2]), read_number(words[3])


def point_text(point):
    """A point's two words, each a line and how far behind it."""
    (upright, east), (level, north) = point
    return f"{upright}{east:+d} {level}{north:+d}"


def _read_place(word):
    """The line and the number that a point's word writes, None in the place of a number that is none."""
    sign = "+" if "+" in word else "-"
    line, _, figures = word.partition(sign)
    return line, read_whole(figures) if sign == "+" else read_number("-" + figures)


def read_point(text):
    """What is written as a point, whether it is one or not."""
    words = text.split(" ") if isinstance(text, str) else []
    places = [_read_place(word) for word in words]
    if len(places) != 2 or not all([is_name(line) and number is not None for line, number in places]):
        raise NoText(0)
    return tuple(places)


def read_names(text):
    """The names, one or more, that a text has with blanks between, None of any other text."""
    names = text.split(" ")
    return names if all([is_name(name) for name in names]) else None


def plan_text(plan):
    """A plan's two rows, with a line feed behind each."""
    return "".join([" ".join([word, *plan.lines(k)]) + "\n" for k, word in enumerate(_ROWS)])


def _read_row(row, word):
    """The names that stand behind a word in a row, None of any other row."""
    first, _, rest = row.partition(" ")
    return read_names(rest) if first == word else None


def read_plan(text):
    """The plan of which this is the text."""
    rows = text.split("\n") if isinstance(text, str) else [""]
    # What stands behind the last line feed isn't ended: nothing may stand there.
    rest = rows.pop()
    lines = []
    for k, word in enumerate(_ROWS):
        names = _read_row(rows[k], word) if k < len(rows) else None
        if names is None:
            raise NoText(k)
        lines.append(names)
    if len(rows) > len(_ROWS) or rest != "":
        raise NoText(len(_ROWS))
    return Plan(lines[0], lines[1])
