"""The texts of programs: how a program is shown, and how a text is read."""

from withinall.acts import SIGNS, SORTS, is_name
from withinall.errors import NoText
from withinall.programs import need_program

FIGURES = "0123456789"
MOST_FIGURES = 60


def shown(program):
    """The text of the program."""
    width, defs = program
    rows = [f"width {width}"]
    for definition in defs:
        rows.extend(_rows_shown(definition))
    return "\n".join(rows)


def _rows_shown(definition):
    """The rows of the text that write the def."""
    name, params, fingers, rows, steps = definition
    shown_rows = [" ".join(["def", name, *params])]
    if len(fingers) > 0:
        shown_rows.append(" ".join(["fingers", *fingers]))
    if len(rows) > 0:
        shown_rows.append(" ".join(["rows", *rows]))
    for label, act in steps:
        shown_rows.append(" ".join([str(label)] + _words_shown(act)))
    return shown_rows


def _words_shown(act):
    """The words that write the act."""
    words = []
    for part in act:
        if isinstance(part, tuple):
            words.extend(part)
        else:
            words.append(str(part))
    return words


def read(text):
    """The program that the text writes; refused by its first row that isn't so, then as a program is."""
    if not isinstance(text, str):
        raise NoText(0)
    rows = [row.split(" ") for row in text.split("\n")]
    width = _width_read(rows)
    defs = []
    at = 1
    while at == 1 or at < len(rows):
        definition, at = _def_read(rows, at)
        defs.append(definition)
    program = (width, tuple(defs))
    need_program(program)
    return program


def _width_read(rows):
    """The width that the first row tells."""
    words = rows[0]
    if len(words) != 2 or words[0] != "width" or not is_number(words[1]):
        raise NoText(0)
    return int(words[1])


def _def_read(rows, at):
    """The def that begins at this row, and the number of the row behind it."""
    if at == len(rows):
        raise NoText(at)
    words = rows[at]
    if len(words) < 2 or words[0] != "def" or not _are_names(words[1:]):
        raise NoText(at)
    fingers, at = _names_read(rows, at + 1, "fingers")
    kept, at = _names_read(rows, at, "rows")
    steps, at = _steps_read(rows, at)
    return (words[1], tuple(words[2:]), fingers, kept, steps), at


def _names_read(rows, at, head):
    """The names of the row where it has this head, none elsewhere, and the number of the row to go on with."""
    if at == len(rows) or rows[at][0] != head:
        return (), at
    names = rows[at][1:]
    if len(names) == 0 or not _are_names(names):
        raise NoText(at)
    return tuple(names), at + 1


def _steps_read(rows, at):
    """The steps, one at least, that begin at this row, and the number of the row behind them."""
    if at == len(rows):
        raise NoText(at)
    steps = [_step_read(rows[at], at)]
    at += 1
    while at < len(rows) and rows[at][0] != "def":
        steps.append(_step_read(rows[at], at))
        at += 1
    return tuple(steps), at


def _step_read(words, at):
    """The step that the words of the row with this number write."""
    if len(words) < 2 or not is_number(words[0]) or words[1] not in SORTS:
        raise NoText(at)
    sorts = SORTS[words[1]]
    parts = words[2:]
    if sorts[-1] == "given":
        parts = words[2:len(sorts) + 1] + [words[len(sorts) + 1:]]
    if len(parts) != len(sorts):
        raise NoText(at)
    act = [words[1]]
    for sort, part in zip(sorts, parts):
        if not _is_written(sort, part):
            raise NoText(at)
        act.append(_part_read(part))
    return (int(words[0]), tuple(act))


def _is_written(sort, part):
    """Whether the word (of what is given: the words) may write a part of the sort."""
    if sort == "given":
        return _are_names(part)
    if sort in ("word", "label"):
        return is_number(part)
    if sort == "sign":
        return part in SIGNS
    return is_name(part) or (sort == "side" and is_number(part))


def _part_read(part):
    """The part that a word, or the words of what is given, write."""
    if isinstance(part, list):
        return tuple(part)
    return int(part) if is_number(part) else part


def _are_names(words):
    """Whether each of the words is a name."""
    return all([is_name(word) for word in words])


def is_number(word):
    """Whether the word is a number as it has to be written."""
    figures = word[1:] if word.startswith("-") else word
    if not 1 <= len(figures) <= MOST_FIGURES or any([figure not in FIGURES for figure in figures]):
        return False
    return figures[0] != "0" or word == "0"
