"""The promises once more, written otherwise than the package writes them, for the tests to compare with."""

import re

NUMBER = r"(?:0|-?[1-9][0-9]{0,59})"
NAME = r"[a-z]{1,4}"
SIDE = f"(?:{NAME}|{NUMBER})"
TEST = f"{SIDE} (?:<|<=) {SIDE}"
ACT = "|".join((
    f"set {NAME} {NUMBER}",
    f"add {NAME} {NAME} {NUMBER}",
    f"(?:plus|minus|times|over|rest|mid|get|put) {NAME} {NAME} {NAME}",
    f"(?:row|length) {NAME} {NAME}",
    f"ask {NAME} {NUMBER} {NUMBER}",
    f"(?:tell|back) {NAME}",
    f"check {TEST}",
    f"if {TEST} {NUMBER}",
    f"go {NUMBER}",
    f"call {NAME} {NAME}(?: {NAME})*",
))
STEP = f"{NUMBER} (?:{ACT})"
ROWS = {
    "width": f"width {NUMBER}",
    "def": f"def {NAME}(?: {NAME})*",
    "fingers": f"fingers(?: {NAME})+",
    "rows": f"rows(?: {NAME})+",
    "step": STEP,
}
FOLLOWS = {
    "width": ("def",),
    "def": ("fingers", "rows", "step"),
    "fingers": ("rows", "step"),
    "rows": ("step",),
    "step": ("step", "def"),
}


def wrong_row(text):
    """The number that NoText has of the text, None where its rows are so by their words."""
    rows = text.split("\n")
    may = ("width",)
    for number, row in enumerate(rows):
        sorts = [sort for sort in may if re.fullmatch(ROWS[sort], row)]
        if not sorts:
            return number
        may = FOLLOWS[sorts[0]]
    return None if "def" in may and "step" in may else len(rows)


class Wrong(Exception):
    """The thing is no program; args holds the spot alone."""


def wrong_spot(thing):
    """The spot that NoProgram has of the thing, None where it is let by."""
    try:
        _look_at(thing)
    except Wrong as wrong:
        return wrong.args[0]
    return None


def _hold(so, *spot):
    if not so:
        raise Wrong(spot)


def _between(thing, least, greatest):
    return type(thing) is int and least <= thing <= greatest


def _named(thing):
    return type(thing) is str and re.fullmatch(NAME, thing) is not None


def _naming(thing, most):
    return type(thing) is tuple and len(thing) <= most and all(map(_named, thing)) and len(set(thing)) == len(thing)


def _look_at(thing):
    _hold(type(thing) is tuple and len(thing) == 2, None, None)
    width, defs = thing
    _hold(_between(width, 1, 31) and type(defs) is tuple and len(defs) in range(1, 7), None, None)
    for d, one in enumerate(defs):
        _hold(type(one) is tuple and len(one) == 5, d, None)
        name, params, fingers, rows, steps = one
        _hold(_named(name) and _naming(params, 10 ** 9) and _naming(fingers, 3) and _naming(rows, 2), d, None)
        _hold(list(fingers) == sorted(fingers) and list(rows) == sorted(rows), d, None)
        _hold(not set(fingers) & set(rows), d, None)
        _hold(type(steps) is tuple and len(steps) in range(1, 31), d, None)
        plain = set(params)
        least = 0
        for s, step in enumerate(steps):
            _hold(type(step) is tuple and len(step) == 2, d, s)
            _hold(_between(step[0], least, 9999), d, s)
            least = step[0] + 1
            names = _names_of_act(step[1], width, fingers, rows)
            _hold(names is not None, d, s)
            plain |= names
        _hold(len(plain - set(fingers) - set(rows)) <= 6, d, None)
    _look_at_all(defs)


def _look_at_all(defs):
    heads = {}
    for d, one in enumerate(defs):
        _hold(one[0] not in heads, d, None)
        heads[one[0]] = one
    _hold("main" in heads and heads["main"][1] == (), None, None)
    for d, (_, _, fingers, rows, steps) in enumerate(defs):
        labels = {label for label, _ in steps}
        for s, (label, act) in enumerate(steps):
            if act[0] == "if":
                _hold(act[4] in labels, d, s)
            if act[0] == "go":
                _hold(act[1] in labels, d, s)
            if act[0] == "call":
                _hold(act[2] in heads, d, s)
                callee = heads[act[2]]
                _hold(len(callee[1]) == len(act[3]), d, s)
                for param, name in zip(callee[1], act[3]):
                    if param in callee[3] or param in callee[2]:
                        _hold(name in (rows if param in callee[3] else fingers), d, s)
                    else:
                        _hold(name not in rows, d, s)
            _hold(s < len(steps) - 1 or act[0] in ("back", "go"), d, s)


def _names_of_act(act, width, fingers, rows):
    """The names of the def that the act names, None where it is none."""
    if type(act) is not tuple or not act or type(act[0]) is not str:
        return None

    def word(thing):
        return _between(thing, -width, width)

    def number(thing):
        return _named(thing) and thing not in rows

    def plain(thing):
        return number(thing) and thing not in fingers

    def kept(thing):
        return type(thing) is str and thing in rows

    def side(thing):
        return word(thing) or number(thing)

    def sign(thing):
        return type(thing) is str and re.fullmatch("<=?", thing) is not None

    def label(thing):
        return _between(thing, 0, 9999)

    def given(thing):
        return type(thing) is tuple and all(map(_named, thing))

    three = (plain, plain, plain)
    sorts = {
        "set": (number, word), "add": (number, number, word), "plus": three, "minus": three, "times": three,
        "over": three, "rest": three, "mid": (number, number, number), "row": (kept, number),
        "get": (plain, kept, number), "put": (kept, number, number), "length": (number, kept),
        "ask": (plain, word, word), "tell": (number,), "check": (side, sign, side), "if": (side, sign, side, label),
        "go": (label,), "call": (plain, _named, given), "back": (number,),
    }.get(act[0])
    if sorts is None or len(sorts) != len(act) - 1 or not all(so(part) for so, part in zip(sorts, act[1:])):
        return None
    if act[0] == "ask" and act[2] > act[3]:
        return None
    if act[0] in ("add", "mid") and act[1] in fingers and any(n not in fingers for n in act[2:] if type(n) is str):
        return None
    parts = act[1:2] + act[3] if act[0] == "call" else act[1:]
    return {part for part in parts if type(part) is str and part not in ("<", "<=")}


class Faulty(Exception):
    """A run ends by a fault; args holds why and the place."""


class Player:
    """A run by calls of Python's own, one for each call of the program."""

    def __init__(self, program, words, steps):
        self.width, defs = program
        self.defs = {one[0]: one for one in defs}
        self.words = list(words)
        self.steps = steps
        self.told = []
        self.begun = []

    def whole(self):
        """What the run tells."""
        try:
            end = ("back", self.called("main", (), 0))
        except Faulty as fault:
            end = ("fault", *fault.args)
        return (tuple(self.told), end, len(self.begun))

    def called(self, name, given, calls):
        """The word that a call of the def goes back with."""
        _, params, _, rows, steps = self.defs[name]
        acts = dict(steps)
        labels = sorted(acts)
        numbers = all_names(self.defs[name]) - set(rows)
        held = dict.fromkeys(numbers, 0) | dict.fromkeys(rows, ())
        held.update(zip(params, given))
        label = labels[0]
        while True:
            place = (name, label)
            if len(self.begun) == self.steps:
                raise Faulty("steps", place)
            self.begun.append((place, dict(held)))
            kind, *parts = acts[label]
            if kind == "back":
                return held[parts[0]]
            if kind == "go" or (kind == "if" and self.so(parts, held)):
                label = parts[-1]
                continue
            if kind == "call":
                if calls == 20:
                    raise Faulty("deep", place)
                held[parts[0]] = self.called(parts[1], [held[name] for name in parts[2]], calls + 1)
            else:
                self.act(kind, parts, held, place)
            label = labels[labels.index(label) + 1]

    @staticmethod
    def so(parts, held):
        """Whether the test is so."""
        one, other = (held.get(part, part) for part in (parts[0], parts[2]))
        return one < other or (parts[1] == "<=" and one == other)

    def act(self, kind, parts, held, place):
        """Do the act to what is held."""
        worths = [held[part] if part in held else part for part in parts if part not in ("<", "<=")]
        look = {
            "over": lambda: "nought" if worths[2] == 0 else None,
            "row": lambda: "size" if worths[1] < 0 else None,
            "get": lambda: None if worths[2] in range(len(worths[1])) else "place",
            "put": lambda: None if worths[1] in range(len(worths[0])) else "place",
            "check": lambda: None if self.so(parts, held) else "check",
        }
        look["rest"] = look["over"]
        why = look.get(kind, lambda: None)()
        if why:
            raise Faulty(why, place)
        makes = {
            "set": lambda: worths[1],
            "add": lambda: worths[1] + worths[2],
            "plus": lambda: worths[1] + worths[2],
            "minus": lambda: worths[1] - worths[2],
            "times": lambda: worths[1] * worths[2],
            "over": lambda: divmod(worths[1], worths[2])[0],
            "rest": lambda: divmod(worths[1], worths[2])[1],
            "mid": lambda: (worths[1] + worths[2]) >> 1,
            "row": lambda: tuple([0] * worths[1]),
            "get": lambda: worths[1][worths[2]],
            "put": lambda: tuple(worths[2] if at == worths[1] else cell for at, cell in enumerate(worths[0])),
            "length": lambda: len(worths[1]),
            "ask": lambda: self.asked(worths[1], worths[2]),
        }
        if kind == "tell":
            self.told.append(worths[0])
        if kind in makes:
            made = makes[kind]()
            if type(made) is int and abs(made) > self.width:
                raise Faulty("great", place)
            held[parts[0]] = made

    def asked(self, least, greatest):
        """The next word, brought between, step by step."""
        word = self.words.pop(0) if self.words else 0
        while word < least:
            word += greatest - least + 1
        while word > greatest:
            word -= greatest - least + 1
        return word


def all_names(one):
    names = set(one[1]) | set(one[2]) | set(one[3])
    for _, act in one[4]:
        parts = act[1:2] + act[3] if act[0] == "call" else act[1:]
        names |= {part for part in parts if type(part) is str and part not in ("<", "<=")}
    return names
