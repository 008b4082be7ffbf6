"""Makes: what the acts that go on to the next label make of a tight box, tight, or nothing where each state faults.

Boxes that are told may share their dicts with those handed in.
"""

from withinall.cuts import between, reached, tested
from withinall.sums import pairs, twice


def made(act, box, width):
    """What the act makes of the tight box."""
    make = MAKES[act[0]]
    return make(act, box, width)


def with_number(box, name, stretch, nearer):
    """The box where the number becomes any word of the stretch; nearer has the rooms that hang on more than that."""
    numbers, rows, rooms = box
    made_rooms = {pair: rooms[pair] for pair in rooms}
    for finger, row in rooms:
        if finger == name:
            made_rooms[finger, row] = nearer[row] if row in nearer else stretch[1] - rows[row][0]
    return ({**numbers, name: stretch}, rows, made_rooms)


def _set(act, box, width):
    """The number becomes the word."""
    return with_number(box, act[1], (act[2], act[2]), {})


def _add(act, box, width):
    """The number becomes another and a word, where that is a word; a finger takes over the other's rooms."""
    x, y, k = act[1:]
    kept = between(box, y, -width - k, width - k, width=width)
    if kept is None:
        return None
    numbers, rows, rooms = kept
    nearer = {row: rooms[y, row] + k for row in rows if (y, row) in rooms}
    return with_number(kept, x, (numbers[y][0] + k, numbers[y][1] + k), nearer)


def _sum(act, box, width):
    """One of the five acts of two plain numbers, which hang together with nothing else."""
    word, x, y, z = act
    numbers, rows, rooms = box
    if y == z:
        results, firsts = twice(word, numbers[y], width=width)
        seconds = firsts
    else:
        results, firsts, seconds = pairs(word, numbers[y], numbers[z], width=width)
    if results is None:
        return None
    return ({**numbers, y: firsts, z: seconds, x: results}, rows, rooms)


def _mid(act, box, width):
    """The number becomes the middle of two."""
    x, y, z = act[1:]
    numbers, rows, rooms = box
    # Where a row is shortest both fingers may stand as far beyond it as they ever do, at once; and where it is longer
    # by one their middle stands beyond it by no more.
    nearer = {row: (rooms[y, row] + rooms[z, row]) // 2 for row in rows if (y, row) in rooms and (z, row) in rooms}
    one, other = numbers[y], numbers[z]
    return with_number(box, x, ((one[0] + other[0]) // 2, (one[1] + other[1]) // 2), nearer)


def _row(act, box, width):
    """The row becomes as many noughts as a number says."""
    row, y = act[1:]
    kept = between(box, y, 0, width, width=width)
    if kept is None:
        return None
    numbers, rows, rooms = kept
    least, greatest = numbers[y]
    made_rooms = {pair: rooms[pair] for pair in rooms}
    for finger, other in rooms:
        if other == row:
            made_rooms[finger, other] = 0 if finger == y else numbers[finger][1] - least
    return (numbers, {**rows, row: (least, greatest, (0, 0) if greatest > 0 else None)}, made_rooms)


def _get(act, box, width):
    """The number becomes a cell of the row, any of them."""
    x, row, index = act[1:]
    kept = reached(box, row, index, width=width)
    if kept is None:
        return None
    return with_number(kept, x, kept[1][row][2], {})


def _put(act, box, width):
    """One cell of the row becomes the number; where it has others they stay."""
    row, index, y = act[1:]
    kept = reached(box, row, index, width=width)
    if kept is None:
        return None
    numbers, rows, rooms = kept
    least, greatest, cells = rows[row]
    worth = numbers[y]
    if greatest > 1:
        worth = (min(worth[0], cells[0]), max(worth[1], cells[1]))
    return (numbers, {**rows, row: (least, greatest, worth)}, rooms)


def _length(act, box, width):
    """The number becomes the row's length, so that a finger has just no room to the row."""
    x, row = act[1:]
    return with_number(box, x, box[1][row][:2], {row: 0})


def _ask(act, box, width):
    """The number becomes any word from the one to the other: there are never more of these than of all words."""
    return with_number(box, act[1], act[2:], {})


def _tell(act, box, width):
    """All stays."""
    return box


def _check(act, box, width):
    """What passes the test stays."""
    return tested(box, act[1:], width=width)


MAKES = {
    "set": _set,
    "add": _add,
    "plus": _sum,
    "minus": _sum,
    "times": _sum,
    "over": _sum,
    "rest": _sum,
    "mid": _mid,
    "row": _row,
    "get": _get,
    "put": _put,
    "length": _length,
    "ask": _ask,
    "tell": _tell,
    "check": _check,
}
