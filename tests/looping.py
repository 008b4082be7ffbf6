"""Texts of loops as the promise has them (point 20): their rows, what they write and how they play, written otherwise."""

import re

import oracle

KEPT = "(?!(?:def|rows|mid|ask|row|tell|back|if|else|rest)(?![a-z]))"
NAME = KEPT + "[a-z]{1,4}(?![a-z])"
NUMBER = oracle.NUMBER
COUNT = "(?:0|[1-9][0-9]{0,59})"
SIDE = f"(?:{NAME}|{NUMBER})"
TEST = f"({SIDE}) (<|<=) ({SIDE})"
ROWS = {
    "def": f"def {NAME}(?: {NAME})*",
    "fingers": f"fingers(?: {NAME})+",
    "rows": f"rows(?: {NAME})+",
    "if": f"if {TEST}",
    "while": f"while {TEST}",
    "else": "else",
    "back": f"back ({NAME})",
}
ACTS = {
    "set": f"({NAME}) = ({NUMBER})",
    "add": f"({NAME}) = ({NAME}) \\+ ({COUNT})",
    "less": f"({NAME}) = ({NAME}) - ({COUNT})",
    "plus": f"({NAME}) = ({NAME}) \\+ ({NAME})",
    "minus": f"({NAME}) = ({NAME}) - ({NAME})",
    "times": f"({NAME}) = ({NAME}) \\* ({NAME})",
    "over": f"({NAME}) = ({NAME}) // ({NAME})",
    "rest": f"({NAME}) = ({NAME}) rest ({NAME})",
    "mid": f"({NAME}) = mid ({NAME}) ({NAME})",
    "length": f"({NAME}) = length ({NAME})",
    "get": f"({NAME}) = ({NAME}) \\[ ({NAME}) \\]",
    "put": f"({NAME}) \\[ ({NAME}) \\] = ({NAME})",
    "row": f"({NAME}) = row ({NAME})",
    "ask": f"({NAME}) = ask ({NUMBER}) ({NUMBER})",
    "tell": f"tell ({NAME})",
    "check": f"check {TEST}",
    "back": ROWS["back"],
    "call": f"({NAME}) = ({NAME}) \\(((?: {NAME})*) \\)",
}


def kind_of(words):
    """The sort of a line by its words, None where it is none."""
    sorts = [sort for sort, row in (*ROWS.items(), *ACTS.items()) if re.fullmatch(row, words)]
    return sorts[0] if sorts else None


def wrong_line(text):
    """The number that NoText has of the text, None where its lines are so by their words and depths."""
    rows = text.split("\n")
    if not re.fullmatch(f"width {NUMBER}", rows[0]):
        return 0
    ahead = "width"
    deep = 0
    last_one_deep = None
    at_depth = {}
    for number, row in enumerate(rows[1:], 1):
        blanks = len(row) - len(row.lstrip(" "))
        depth, odd = divmod(blanks, 2)
        kind = kind_of(row[blanks:])
        if kind is None or odd or depth > 30:
            return number
        if depth == 0:
            if kind != "def" or ahead != "width" and last_one_deep != "back" or deep > 1:
                return number
            last_one_deep, at_depth = None, {}
        elif kind == "def" or ahead == "width":
            return number
        elif kind in ("fingers", "rows"):
            if depth != 1 or ahead not in (("def",) if kind == "fingers" else ("def", "fingers")):
                return number
        else:
            if ahead in ("def", "fingers", "rows"):
                fits = depth == 1
            else:
                fits = depth == deep + 1 if ahead in ("if", "while", "else") else depth <= deep
            if not fits or kind == "else" and (at_depth.get(depth) != "if" or deep <= depth):
                return number
            at_depth = {each: at_depth[each] for each in at_depth if each < depth} | {depth: kind}
            if depth == 1:
                last_one_deep = kind
        ahead, deep = kind, depth
    return None if last_one_deep == "back" and deep == 1 else len(rows)


def read_part(word):
    return int(word) if re.fullmatch(NUMBER, word) else word


def act_of(words):
    """The act that a plain line writes."""
    kind = kind_of(words)
    parts = [read_part(part) for part in re.fullmatch(ACTS[kind], words).groups()] if kind != "call" else []
    if kind == "call":
        x, f, given = re.fullmatch(ACTS[kind], words).groups()
        return ("call", x, f, tuple(given.split()))
    return ("add", *parts[:2], -parts[2]) if kind == "less" else (kind, *parts)


def tree_of(rows, numbers):
    """The lines with these numbers as a list of (number, kind, what, body, number of the else, its body)."""
    found = []
    numbers = list(numbers)
    while numbers:
        number = numbers.pop(0)
        words = rows[number].strip()
        kind = kind_of(words)
        deep = len(rows[number]) - len(words)
        if kind not in ("if", "while", "else"):
            found.append((number, "act", act_of(words), [], None, []))
            continue
        inner = []
        while numbers and len(rows[numbers[0]]) - len(rows[numbers[0]].lstrip()) > deep:
            inner.append(numbers.pop(0))
        body = tree_of(rows, inner)
        if kind == "else":
            found[-1] = (*found[-1][:4], number, body)
        else:
            test = tuple(map(read_part, re.fullmatch(ROWS[kind], words).groups()))
            found.append((number, kind, test, body, None, []))
    return found


def defs_of(text):
    """The width and the defs of a text whose lines are so: (name, params, fingers, rows, tree)."""
    rows = text.split("\n")
    heads = [number for number, row in enumerate(rows) if row.startswith("def")] + [len(rows)]
    defs = []
    for head, behind in zip(heads, heads[1:]):
        name, *params = rows[head].split()[1:]
        kept = {"fingers": (), "rows": ()}
        first = head + 1
        while rows[first].split()[0] in kept:
            kept[rows[first].split()[0]] = tuple(rows[first].split()[1:])
            first += 1
        defs.append((name, tuple(params), kept["fingers"], kept["rows"], tree_of(rows, range(first, behind))))
    return int(rows[0].split()[1]), defs


def program_of(text):
    """What the text writes, whether it is let by or not."""
    width, defs = defs_of(text)
    return (width, tuple((*one[:4], tuple((label, tuple(act)) for label, act in Steps(one[4]).steps)) for one in defs))


class Steps:
    """The steps of a def; those whose label isn't known yet wait for the next one."""

    def __init__(self, tree):
        self.steps = []
        self.waiting = []
        self.block(tree)

    def step(self, label, act):
        for other in self.waiting:
            other[-1] = label
        self.waiting = []
        self.steps.append((label, act))
        return act

    def block(self, tree):
        for number, kind, what, body, other, other_body in tree:
            if kind == "act":
                self.step(20 * number, list(what))
                continue
            one, sign, two = what
            act = self.step(20 * number, ["if", two, {"<": "<=", "<=": "<"}[sign], one, None])
            self.block(body)
            if kind == "while":
                self.step(self.steps[-1][0] + 1, ["go", 20 * number])
            if other is None:
                self.waiting.append(act)
            else:
                act[-1] = 20 * (other + 1)
                go = self.step(20 * other, ["go", None])
                self.block(other_body)
                self.waiting.append(go)


class Back(Exception):
    """A def goes back; args holds the word."""


class Playing(oracle.Player):
    """A text played by itself, by calls of Python's own."""

    def __init__(self, text, words, steps):
        super().__init__(program_of(text), words, steps)
        self.trees = {one[0]: one for one in defs_of(text)[1]}

    def begin(self, place):
        if len(self.begun) == self.steps:
            raise oracle.Faulty("steps", place)
        self.begun.append(place)

    def called(self, name, given, calls):
        _, params, _, rows, tree = self.trees[name]
        held = dict.fromkeys(oracle.all_names(self.defs[name]), 0) | dict.fromkeys(rows, ())
        held.update(zip(params, given))
        try:
            self.block(name, tree, held, calls)
        except Back as back:
            return back.args[0]
        raise AssertionError("no back")

    def block(self, name, tree, held, calls):
        for number, kind, what, body, other, other_body in tree:
            place = (name, number)
            self.begin(place)
            if kind == "act":
                self.simple(what, held, place, calls)
            elif kind == "if":
                if self.so(what, held):
                    self.block(name, body, held, calls)
                    if other is not None:
                        self.begin((name, other))
                else:
                    self.block(name, other_body, held, calls)
            else:
                while self.so(what, held):
                    self.block(name, body, held, calls)
                    self.begin((name, last_line(body)))
                    self.begin(place)

    def simple(self, act, held, place, calls):
        kind, *parts = act
        if kind == "back":
            raise Back(held[parts[0]])
        if kind == "call":
            if calls == 20:
                raise oracle.Faulty("deep", place)
            held[parts[0]] = self.called(parts[1], [held[each] for each in parts[2]], calls + 1)
        else:
            self.act(kind, parts, held, place)


def last_line(tree):
    """The number of the last line of the tree."""
    number, _, _, body, _, other_body = tree[-1]
    return last_line(other_body or body) if other_body or body else number


def played(text, words=(), steps=200):
    """What playing the text tells."""
    return Playing(text, words, steps).whole()
