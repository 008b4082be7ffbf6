"""Texts of loops that the tests draw."""

import random

import looping
import oracle

PLAIN = ("u", "v", "x", "y")


def drawn_text(seed, most=24):
    """Some text of loops whose program is let by, the same for each seed."""
    chance = random.Random(seed)
    while True:
        text = _some_text(chance, most)
        if looping.wrong_line(text) is None and oracle.wrong_spot(looping.program_of(text)) is None:
            return text


def _some_text(chance, most):
    width = chance.choice((2, 5, 9, 31))
    heads = [("main", (), *_names(chance))]
    for name in chance.sample(("f", "gg", "set", "go", "call"), chance.randint(0, 3)):
        fingers, rows = _names(chance)
        heads.append((name, tuple(chance.sample(("u", "v") + fingers + rows, chance.randint(0, 2))), fingers, rows))
    chance.shuffle(heads)
    lines = [f"width {width}"]
    for name, params, fingers, rows in heads:
        lines.append(" ".join(("def", name, *params)))
        if fingers:
            lines.append(" ".join(("  fingers", *fingers)))
        if rows:
            lines.append(" ".join(("  rows", *rows)))
        left = [chance.randint(1, most)]
        if name == "main":
            lines += [f"  x = ask {-width} {width}", f"  y = ask 0 {width}"]
        while left[0] > 0:
            lines += _item(chance, 1, left, (width, fingers, rows, heads))
        lines.append(f"  back {chance.choice(PLAIN + fingers)}")
    return "\n".join(lines)


def _names(chance):
    return (chance.choice(((), ("p",), ("p", "q"))), chance.choice(((), ("a",), ("a", "over"))))


def _item(chance, depth, left, known):
    """The lines of one act, or of one head and all in it."""
    left[0] -= 1
    kind = chance.random()
    blanks = "  " * depth
    if kind < 0.6 or depth > 6 or left[0] < 2:
        return [blanks + _act(chance, *known)]
    test = " ".join((_side(chance, known), chance.choice(("<", "<=")), _side(chance, known)))
    if kind < 0.8:
        return [f"{blanks}while {test}", *_body(chance, depth + 1, left, known)]
    lines = [f"{blanks}if {test}", *_body(chance, depth + 1, left, known)]
    if chance.random() < 0.6:
        left[0] -= 1
        lines += [f"{blanks}else", *_body(chance, depth + 1, left, known)]
    return lines


def _body(chance, depth, left, known):
    lines = _item(chance, depth, left, known)
    while left[0] > 0 and chance.random() < 0.5:
        lines += _item(chance, depth, left, known)
    return lines


def _side(chance, known):
    return chance.choice(PLAIN + known[1]) if chance.random() < 0.7 else str(chance.randint(-known[0], known[0]))


def _act(chance, width, fingers, rows, heads):
    """The words of some act."""
    numbers = PLAIN + fingers
    x, y, z, any_x, any_y = (chance.choice(each) for each in (PLAIN, PLAIN, PLAIN, numbers, numbers))
    if any_x in fingers:
        any_y = chance.choice(fingers)
    row = chance.choice(rows) if rows else None
    acts = [f"{any_x} = {chance.randint(-width, width)}", f"{any_x} = {any_y} + 1", f"{any_x} = {any_y} - 1",
            f"{any_x} = {any_y} - {chance.randint(0, width)}", f"tell {any_x}", f"{x} = ask -{width} {width}",
            f"{any_x} = mid {any_y} {any_y}", f"check {x} <= {width}", f"{x} = {y} {chance.choice(('+', '-', '*', '//', 'rest'))} {z}",
            f"check {any_x} {chance.choice(('<', '<='))} {any_y}"]
    if row:
        acts += [f"{row} = row {any_x}", f"{any_x} = length {row}", f"{x} = {row} [ {any_x} ]", f"{row} [ {any_x} ] = {any_y}"] * 2
    if chance.random() < 0.04:
        return f"back {any_x}"
    if chance.random() < 0.2:
        name, params, taken_fingers, taken_rows = chance.choice(heads)
        given = [chance.choice((rows if p in taken_rows else fingers if p in taken_fingers else numbers) or ("x",))
                 for p in params]
        return " ".join((x, "=", name, "(", *given, ")"))
    return chance.choice(acts)
