"""Lines: texts of loops, line by line, each by its words and by what it stands in."""

from withinall.acts import SIGNS, is_name
from withinall.errors import NoText
from withinall.texts import is_number

MOST_DEEP = 30
HEADS = ("if", "while", "else")
KEPT_WORDS = ("def", "rows", "mid", "ask", "row", "tell", "back", "if", "else", "rest")

# How each line is written, and the word of the act that it does; take is an add of as much below 0.
FORMS = (
    ("set", "NAME = NUMBER"),
    ("add", "NAME = NAME + COUNT"),
    ("take", "NAME = NAME - COUNT"),
    ("plus", "NAME = NAME + NAME"),
    ("minus", "NAME = NAME - NAME"),
    ("times", "NAME = NAME * NAME"),
    ("over", "NAME = NAME // NAME"),
    ("rest", "NAME = NAME rest NAME"),
    ("mid", "NAME = mid NAME NAME"),
    ("length", "NAME = length NAME"),
    ("get", "NAME = NAME [ NAME ]"),
    ("put", "NAME [ NAME ] = NAME"),
    ("row", "NAME = row NAME"),
    ("ask", "NAME = ask NUMBER NUMBER"),
    ("tell", "tell NAME"),
    ("check", "check SIDE SIGN SIDE"),
    ("back", "back NAME"),
    ("if", "if SIDE SIGN SIDE"),
    ("while", "while SIDE SIGN SIDE"),
    ("else", "else"),
)


class Line:
    """A line of a def: its number in the text, how deep it stands, and what it does, as an act or a head's test."""

    def __init__(self, number, depth, act, within):
        self.number = number
        self.depth = depth
        self.act = act
        # The head that it stands in, and, of a head, the last line in it and the else that belongs to it.
        self.within = within
        self.last = number
        self.other = None


def lines_of(text):
    """The width and the defs of a text of loops, each (name, params, fingers, rows, lines)."""
    if not isinstance(text, str):
        raise NoText(0)
    rows = [_parted(row) for row in text.split("\n")]
    depth, words = rows[0]
    if depth != 0 or len(words) != 2 or words[0] != "width" or not is_number(words[1]):
        raise NoText(0)
    defs = []
    at = 1
    while at == 1 or at < len(rows):
        definition, at = _def_read(rows, at)
        defs.append(definition)
    return (int(words[1]), defs)


def _parted(row):
    """How deep the row stands, None where that is between two depths, and its words."""
    words = row.lstrip(" ")
    blanks = len(row) - len(words)
    return (blanks // 2 if blanks % 2 == 0 else None, words.split(" "))


def _def_read(rows, at):
    """The def that begins at this row, and the number of the row behind it."""
    if at == len(rows):
        raise NoText(at)
    depth, words = rows[at]
    if depth != 0 or words[0] != "def" or len(words) < 2 or not _are_names(words[1:]):
        raise NoText(at)
    fingers, at = _names_read(rows, at + 1, "fingers")
    kept, at = _names_read(rows, at, "rows")
    lines = _lines_read(rows, at)
    return (words[1], tuple(words[2:]), fingers, kept, lines), at + len(lines)


def _names_read(rows, at, head):
    """The names of the row where it has this head, none elsewhere, and the number of the row to go on with."""
    if at == len(rows) or rows[at][0] != 1 or rows[at][1][0] != head:
        return (), at
    names = rows[at][1][1:]
    if len(names) == 0 or not _are_names(names):
        raise NoText(at)
    return tuple(names), at + 1


def _lines_read(rows, at):
    """The lines of a def from this row on, as far as they are beneath it."""
    lines = []
    heads = []
    while at < len(rows) and rows[at][0] != 0:
        depth, words = rows[at]
        if depth is None or not _may_stand(depth, lines):
            raise NoText(at)
        left = None
        while len(heads) > 0 and heads[-1].depth >= depth:
            left = heads.pop()
        act = _act_read(words)
        if act is None or (act[0] == "else" and (left is None or left.act[0] != "if")):
            raise NoText(at)
        line = Line(at, depth, act, heads[-1] if len(heads) > 0 else None)
        if act[0] == "else":
            left.other = line
        lines.append(line)
        for head in heads:
            head.last = at
        if act[0] in HEADS:
            heads.append(line)
        at += 1
    if not _may_end(lines):
        raise NoText(at)
    return lines


def _may_stand(depth, lines):
    """Whether a line so deep may stand behind these lines of its def."""
    if depth > MOST_DEEP:
        return False
    if len(lines) == 0:
        return depth == 1
    return depth == lines[-1].depth + 1 if lines[-1].act[0] in HEADS else depth <= lines[-1].depth


def _may_end(lines):
    """Whether a def may end behind these lines."""
    return len(lines) > 0 and lines[-1].depth == 1 and lines[-1].act[0] == "back"


def _act_read(words):
    """What the words of a line do, None where they are no line."""
    if len(words) > 4 and words[1] == "=" and words[3] == "(" and words[-1] == ")":
        named = [words[0], words[2], *words[4:-1]]
        return ("call", words[0], words[2], tuple(words[4:-1])) if _are_names(named) else None
    for word, form in FORMS:
        parts = _parts_read(words, form.split(" "))
        if parts is not None:
            return ("add", *parts[:2], -parts[2]) if word == "take" else (word, *parts)
    return None


def _parts_read(words, form):
    """What the words write where the form has the name of a sort, None where they are not of this form."""
    if len(words) != len(form):
        return None
    parts = []
    for word, sort in zip(words, form):
        if sort in ("NAME", "NUMBER", "COUNT", "SIDE", "SIGN"):
            if not _is_written(sort, word):
                return None
            parts.append(int(word) if is_number(word) else word)
        elif word != sort:
            return None
    return parts


def _is_written(sort, word):
    """Whether the word may write a part of the sort."""
    if sort == "SIGN":
        return word in SIGNS
    if sort == "NAME":
        return _is_name_here(word)
    if sort == "COUNT":
        return is_number(word) and not word.startswith("-")
    return is_number(word) or (sort == "SIDE" and _is_name_here(word))


def _is_name_here(word):
    """Whether the word may be a name in a text of loops."""
    return is_name(word) and word not in KEPT_WORDS


def _are_names(words):
    """Whether each of the words may be a name in a text of loops."""
    return all([_is_name_here(word) for word in words])
