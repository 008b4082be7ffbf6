"""The acts: the sorts of their parts, and whether parts and acts are so by themselves."""

LETTERS = "abcdefghijklmnopqrstuvwxyz"
MOST_LETTERS = 4
MOST_LABEL = 9999
SIGNS = ("<", "<=")

# What stands behind each act's own word, part by part.
SORTS = {
    "set": ("number", "word"),
    "add": ("number", "number", "word"),
    "plus": ("plain", "plain", "plain"),
    "minus": ("plain", "plain", "plain"),
    "times": ("plain", "plain", "plain"),
    "over": ("plain", "plain", "plain"),
    "rest": ("plain", "plain", "plain"),
    "mid": ("number", "number", "number"),
    "row": ("row", "number"),
    "get": ("plain", "row", "number"),
    "put": ("row", "number", "number"),
    "length": ("number", "row"),
    "ask": ("plain", "word", "word"),
    "tell": ("number",),
    "check": ("side", "sign", "side"),
    "if": ("side", "sign", "side", "label"),
    "go": ("label",),
    "call": ("plain", "callee", "given"),
    "back": ("number",),
}


def is_whole(thing):
    """Whether the thing is a whole number; a truth is none."""
    return isinstance(thing, int) and not isinstance(thing, bool)


def is_word(thing, width):
    """Whether the thing is a word of the width."""
    return is_whole(thing) and -width <= thing <= width


def is_label(thing):
    """Whether the thing is a label."""
    return is_whole(thing) and 0 <= thing <= MOST_LABEL


def is_name(thing):
    """Whether the thing is a name."""
    if not isinstance(thing, str) or not 1 <= len(thing) <= MOST_LETTERS:
        return False
    return all([letter in LETTERS for letter in thing])


def is_names(thing):
    """Whether the thing is a tuple of names."""
    return isinstance(thing, tuple) and all([is_name(part) for part in thing])


def is_act(thing, width, fingers, rows):
    """Whether the thing alone is an act of a def that has these fingers and rows."""
    if not isinstance(thing, tuple) or len(thing) == 0 or not isinstance(thing[0], str):
        return False
    if thing[0] not in SORTS or len(thing) != len(SORTS[thing[0]]) + 1:
        return False
    for sort, part in zip(SORTS[thing[0]], thing[1:]):
        if not _is_part(sort, part, width, fingers, rows):
            return False
    return _parts_agree(thing, fingers)


def _is_part(sort, part, width, fingers, rows):
    """Whether the part of an act is of its sort."""
    if sort == "word":
        return is_word(part, width)
    if sort == "label":
        return is_label(part)
    if sort == "given":
        return is_names(part)
    if sort == "sign":
        return isinstance(part, str) and part in SIGNS
    if sort == "side" and is_word(part, width):
        return True
    return is_name(part) and _is_named(sort, part, fingers, rows)


def _is_named(sort, name, fingers, rows):
    """Whether a part of the sort may have this name."""
    if sort == "callee":
        return True
    if sort == "row":
        return name in rows
    if sort == "plain":
        return name not in fingers and name not in rows
    return name not in rows


def _parts_agree(act, fingers):
    """Whether parts that are so by themselves go with one another."""
    if act[0] == "ask":
        return act[2] <= act[3]
    if act[0] == "add" and act[1] in fingers:
        return act[2] in fingers
    if act[0] == "mid" and act[1] in fingers:
        return act[2] in fingers and act[3] in fingers
    return True


def names_in(act):
    """The names of its def that an act names, as they stand; a callee is none of these."""
    names = []
    for sort, part in zip(SORTS[act[0]], act[1:]):
        if sort == "given":
            names.extend(part)
        elif sort in ("number", "plain", "row"):
            names.append(part)
        elif sort == "side" and isinstance(part, str):
            names.append(part)
    return names
