"""Programs and things that the tests share."""

import random

PLAIN_THREE = ("plus", "minus", "times", "over", "rest")

# Every act at least once, with fingers, rows and calls that are given each kind.
EVERY = (9, (
    ("main", (), ("p", "q"), ("a", "b"), (
        (0, ("set", "x", -9)),
        (1, ("set", "p", 0)),
        (2, ("add", "y", "p", 3)),
        (3, ("add", "q", "p", -1)),
        (4, ("plus", "z", "x", "y")),
        (5, ("minus", "z", "x", "y")),
        (6, ("times", "z", "x", "y")),
        (7, ("over", "z", "x", "y")),
        (8, ("rest", "z", "x", "y")),
        (9, ("mid", "p", "p", "q")),
        (10, ("mid", "z", "x", "q")),
        (20, ("row", "a", "y")),
        (21, ("get", "x", "a", "p")),
        (22, ("put", "b", "p", "q")),
        (23, ("length", "q", "b")),
        (24, ("ask", "x", -3, 4)),
        (25, ("tell", "x")),
        (26, ("check", "x", "<=", 4)),
        (27, ("if", -9, "<", "p", 9999)),
        (100, ("call", "x", "rows", ("a", "q", "x"))),
        (101, ("call", "x", "main", ())),
        (200, ("go", 0)),
        (9999, ("back", "p")),
    )),
    ("rows", ("r", "f", "n"), ("f",), ("r",), (
        (5, ("call", "n", "rows", ("r", "f", "f"))),
        (7, ("back", "n")),
    )),
))

EVERY_TEXT = """width 9
def main
fingers p q
rows a b
0 set x -9
1 set p 0
2 add y p 3
3 add q p -1
4 plus z x y
5 minus z x y
6 times z x y
7 over z x y
8 rest z x y
9 mid p p q
10 mid z x q
20 row a y
21 get x a p
22 put b p q
23 length q b
24 ask x -3 4
25 tell x
26 check x <= 4
27 if -9 < p 9999
100 call x rows a q x
101 call x main
200 go 0
9999 back p
def rows r f n
fingers f
rows r
5 call n rows r f f
7 back n"""

# n! by calls within calls.
FACTORIAL = (31, (
    ("fac", ("n",), (), (), (
        (0, ("if", "n", "<=", 0, 10)),
        (1, ("add", "m", "n", -1)),
        (2, ("call", "k", "fac", ("m",))),
        (3, ("times", "k", "k", "n")),
        (4, ("back", "k")),
        (10, ("set", "k", 1)),
        (11, ("back", "k")),
    )),
    ("main", (), (), (), (
        (0, ("ask", "n", 0, 9)),
        (1, ("call", "r", "fac", ("n",))),
        (2, ("tell", "r")),
        (3, ("back", "r")),
    )),
))

# As many words as the first one says are asked for, laid into a row, told backwards.
BACKWARDS = (12, (
    ("main", (), ("p",), ("a",), (
        (0, ("ask", "n", 0, 12)),
        (1, ("row", "a", "n")),
        (2, ("if", "n", "<=", "p", 10)),
        (3, ("ask", "x", -12, 12)),
        (4, ("put", "a", "p", "x")),
        (5, ("add", "p", "p", 1)),
        (6, ("go", 2)),
        (10, ("if", "p", "<=", 0, 20)),
        (11, ("add", "p", "p", -1)),
        (12, ("get", "x", "a", "p")),
        (13, ("tell", "x")),
        (14, ("go", 10)),
        (20, ("back", "n")),
    )),
))

# Calls that go as deep as is asked for.
DEEP = (31, (
    ("down", ("n",), (), (), (
        (0, ("if", "n", "<=", 1, 3)),
        (1, ("add", "n", "n", -1)),
        (2, ("call", "x", "down", ("n",))),
        (3, ("back", "n")),
    )),
    ("main", (), (), (), (
        (0, ("ask", "n", 1, 31)),
        (1, ("call", "x", "down", ("n",))),
        (2, ("back", "x")),
    )),
))

SAMPLES = (EVERY, FACTORIAL, BACKWARDS, DEEP)

# One thing of each kind, and some within one another.
THINGS = (
    None, True, False, 0, 1, -1, 31, 10 ** 59, "", "x", "main", "set", "go", "a b\nc", "~", (), (0,), ("x",), [], [0],
    ["x"], {}, {"x": 1}, {1: "x", ("a", 2): None}, ((), ((), ())), [[], [()]], ("go", 0), ["go", 0], (5, ()),
    (((((((((1,),),),),),),),),),
)


def alone(*acts, width=5, fingers=("p", "q"), rows=("a", "b")):
    """A program of a main alone with these acts, labelled from 0 on, and a back behind them."""
    steps = tuple(enumerate((*acts, ("back", "x"))))
    return (width, (("main", (), fingers, rows, steps),))


def with_part(thing, path, part):
    """The nested tuples with another part where the path leads."""
    if not path:
        return part
    at = path[0]
    return (*thing[:at], with_part(thing[at], path[1:], part), *thing[at + 1:])


def paths(thing, path=()):
    """The paths to all parts of the nested tuples, the whole first."""
    yield path
    if isinstance(thing, tuple):
        for at, part in enumerate(thing):
            yield from paths(part, path + (at,))


def made_act(chance, width, fingers, rows, labels, callees, plain=("u", "v", "x", "y")):
    """Some act that is let by in a def with these names."""
    numbers = plain + fingers

    def word():
        return chance.randint(-width, width)

    def side():
        return chance.choice(numbers) if chance.random() < 0.6 else word()

    def some(names):
        return chance.choice(names)

    kind = some(("set", "add", "mid", "ask", "tell", "check", "if", "go", "call", "length", "row", "get", "put")
                + PLAIN_THREE)
    if kind in ("length", "row", "get", "put") and not rows:
        kind = "set"
    x = some(numbers)
    if kind in PLAIN_THREE:
        return (kind, some(plain), some(plain), some(plain))
    if kind == "call":
        name, params, taken_fingers, taken_rows = some(callees)
        if any(param in taken_rows for param in params) and not rows:
            return ("set", x, word())
        if any(param in taken_fingers for param in params) and not fingers:
            return ("set", x, word())
        given = [some(rows if p in taken_rows else fingers if p in taken_fingers else numbers) for p in params]
        return ("call", some(plain), name, tuple(given))
    if kind == "ask":
        return ("ask", some(plain), *sorted((word(), word())))
    others = fingers if x in fingers else numbers
    acts = {
        "set": lambda: ("set", x, word()),
        "add": lambda: ("add", x, some(others), chance.randint(-2, 2) if width > 1 else word()),
        "mid": lambda: ("mid", x, some(others), some(others)),
        "tell": lambda: ("tell", x),
        "check": lambda: ("check", side(), some(("<", "<=")), side()),
        "if": lambda: ("if", side(), some(("<", "<=")), side(), some(labels)),
        "go": lambda: ("go", some(labels)),
        "length": lambda: ("length", x, some(rows)),
        "row": lambda: ("row", some(rows), x),
        "get": lambda: ("get", some(plain), some(rows), x),
        "put": lambda: ("put", some(rows), x, some(numbers)),
    }
    return acts[kind]()


def made_program(seed):
    """Some program that is let by, the same for each seed."""
    chance = random.Random(seed)
    width = chance.randint(1, 31)
    heads = [("main", (), *_made_names(chance))]
    for name in chance.sample(("f", "gg", "set", "xyzw", "def"), chance.randint(0, 5)):
        fingers, rows = _made_names(chance)
        params = chance.sample(("u", "v") + fingers + rows, chance.randint(0, min(3, 2 + len(fingers))))
        heads.append((name, tuple(params), fingers, rows))
    chance.shuffle(heads)
    defs = []
    for name, params, fingers, rows in heads:
        labels = tuple(sorted(chance.sample(range(10000), chance.randint(1, 30))))
        acts = [made_act(chance, width, fingers, rows, labels, heads) for _ in labels[1:]]
        acts.append(chance.choice((("back", "x"), ("go", labels[0]))))
        defs.append((name, params, fingers, rows, tuple(zip(labels, acts))))
    return (width, tuple(defs))


def small_program(seed):
    """Some program of few words, names and steps, so that all its states may be gone through."""
    chance = random.Random(seed)
    width = 1 if seed % 4 else 2
    kept = [(("p",), ("a",)), ((), ("a",)), (("p",), ())]
    if width == 1:
        kept += [(("p", "q"), ("a",)), (("p", "q"), ()), (("p",), ("a", "b"))]
    heads = []
    for name in ("main", "f", "g")[:chance.choice((1, 2, 2, 3))]:
        fingers, rows = chance.choice(kept)
        params = () if name == "main" else tuple(chance.sample(("x",) + fingers + rows, chance.randint(0, 2)))
        heads.append((name, params, fingers, rows))
    defs = []
    for name, params, fingers, rows in heads:
        labels = tuple(sorted(chance.sample(range(30), chance.randint(6, 14))))
        acts = [_small_act(chance, width, fingers, rows, labels, heads) for _ in labels[1:]]
        acts.append(chance.choice((("back", "x"), ("back", "y"), ("go", labels[0]))))
        if name == "main":
            acts[:2] = [("ask", "x", chance.randint(-width, 0), width), ("ask", "y", chance.randint(0, 1), 1)]
        if name == "main" and rows:
            acts[2] = ("row", rows[0], "y")
        defs.append((name, params, fingers, rows, tuple(zip(labels, acts))))
    return (width, tuple(defs))


def _small_act(chance, width, fingers, rows, labels, callees):
    """Some act, less often one that ends much."""
    act = made_act(chance, width, fingers, rows, labels, callees, ("x", "y"))
    if act[0] in ("check", "go", "set") and chance.random() < 0.7:
        act = made_act(chance, width, fingers, rows, labels, callees, ("x", "y"))
    return act


def great_program(seed):
    """Some program as great as may be: six defs of thirty steps and eleven names each, of the greatest width."""
    chance = random.Random(seed)
    names = ("main", "f", "g", "h", "i", "j")
    defs = []
    for number, name in enumerate(names):
        labels = tuple(sorted(chance.sample(range(10000), 30)))
        acts = [("ask", "u", -31, 31) if name == "main" else ("if", "u", "<=", 0, labels[29]),
                ("ask", "w", 0, 31), ("row", "b", "w"), ("ask", "x", -31, 31)]
        while len(acts) < 26:
            acts += _guarded_acts(chance, names[1:], len(acts), labels)
        # The next def is come to, and all is gone through again.
        acts[26:] = [("call", "v", (*names, "f")[number + 1], ("p", "a", "x", "y", "q")), ("plus", "z", "v", "y"),
                     ("if", "z", "<=", chance.randint(-5, 31), labels[chance.choice((1, 4))])]
        acts.append(("go", labels[4]) if name == "main" and chance.random() < 0.3 else ("back", "u"))
        params = () if name == "main" else ("p", "a", "u", "v", "q")
        defs.append((name, params, ("p", "q", "r"), ("a", "b"), tuple(zip(labels, acts))))
    return (31, tuple(defs))


def _guarded_acts(chance, callees, at, labels):
    """Some acts, those that may fault behind tests that go past them; the first of them is the at-th of its def."""
    number, plain, other = chance.choice("uvwxyzpqr"), chance.choice("uvwxyz"), chance.choice("uvwxyzpqr")
    finger, row, lower = chance.choice("pqr"), chance.choice("ab"), chance.choice("pqr")

    def past(steps):
        return labels[min(at + steps, 29)]

    return chance.choice((
        [("if", 30, "<=", number, past(2)), ("add", number, number, 1)],
        [("if", number, "<=", -30, past(2)), ("add", number, number, -1)],
        [("if", number, "<", 0, past(2)), ("row", row, number)],
        [("if", finger, "<", 0, past(4)), ("length", plain, row), ("if", plain, "<=", finger, past(4)),
         ("get", plain, row, finger)],
        [("if", finger, "<", 0, past(4)), ("length", plain, row), ("if", plain, "<=", finger, past(4)),
         ("put", row, finger, number)],
        [("length", number, row)],
        [("mid", finger, finger, lower)],
        [("mid", plain, number, other)],
        [("add", finger, lower, 0)],
        [("if", number, chance.choice(("<", "<=")), other, chance.choice(labels))],
        [("if", number, "<", chance.randint(-31, 31), chance.choice(labels))],
        [("ask", plain, *sorted(chance.choices(range(-31, 32), k=2)))],
        [("call", plain, chance.choice(callees), (finger, row, number, other, lower))],
        [("ask", plain, -2, 31), (chance.choice(PLAIN_THREE), "x", chance.choice("uvwxyz"), plain)],
    ))


def _made_names(chance):
    fingers = tuple(sorted(chance.sample(("i", "p", "q", "zz"), chance.randint(0, 3))))
    rows = tuple(sorted(chance.sample(("a", "bbbb", "row"), chance.randint(0, 2))))
    return fingers, rows
