"""Tries: a few states of a tight box, enough of them to meet each bound of what the box leads to, or to fail a look."""

from withinall.cuts import between, reached, tested
from withinall.leads import CONTRARY
from withinall.sums import pairs, sum_of, twice

SUMS = ("plus", "minus", "times", "over", "rest")

# The parts of an act that have to be low where other numbers are as high as they may be, for the act not to fault.
LOWERED = {"row": (2,), "get": (3,), "put": (2,), "check": (1,), "if": (1, 3)}


def corners(box):
    """States of the tight box which meet each of its bounds, the lowest first and the highest behind it."""
    lowest, highest = _corner(box, False, None), _corner(box, True, None)
    return [lowest, highest] + [_corner(box, True, row) for row in box[1]]


def _corner(box, high, short):
    """The state of numbers and cells as low or as high as may be, of rows as long as may be but for the short one."""
    numbers, rows, rooms = box
    state = {name: greatest if high else least for name, (least, greatest) in numbers.items()}
    for row, (shortest, longest, cells) in rows.items():
        cell = 0 if cells is None else cells[1 if high else 0]
        state[row] = (cell,) * (shortest if row == short else longest)
    # As the box is tight the least word of a finger has room beside its rows at their shortest.
    for finger, row in rooms:
        state[finger] = min(state[finger], rooms[finger, row] + len(state[row]))
    return state


def tries(spot, box):
    """States of the tight box, each with a word: what they make meets each bound of what the box leads to."""
    states = []
    for part in _passing(spot, box):
        states.extend(_reaching(spot, part))
    if spot.act[0] != "ask":
        return [(state, 0) for state in states]
    return [(state, spot.act[3 if number > 0 else 2]) for number, state in enumerate(states)]


def _passing(spot, box):
    """The parts of the box that pass what the act looks at: tight boxes."""
    act, width = spot.act, spot.width
    if act[0] == "add":
        parts = [between(box, act[2], -width - act[3], width - act[3], width=width)]
    elif act[0] == "row":
        parts = [between(box, act[2], 0, width, width=width)]
    elif act[0] == "get":
        parts = [reached(box, act[2], act[3], width=width)]
    elif act[0] == "put":
        parts = [reached(box, act[1], act[2], width=width)]
    elif act[0] == "check":
        parts = [tested(box, act[1:], width=width)]
    elif act[0] == "if":
        parts = [tested(box, act[1:4], width=width), _failing(act, box, width)]
    else:
        parts = [box]
    return [part for part in parts if part is not None]


def _failing(act, box, width):
    """What is left of the box where the test of the act isn't so."""
    return tested(box, (act[3], CONTRARY[act[2]], act[1]), width=width)


def _reaching(spot, box):
    """States that pass, of a box of passing ones; some may fail where the numbers hang together by no room."""
    act = spot.act
    states = corners(box)
    if act[0] in SUMS:
        met = _met(act, box[0], spot.width)
        if len(met) == 0:
            return []
        # The other numbers and the rows hang on no pair, so it is enough that one is looked at beside all of these.
        return [_paired(act, state, met[0]) for state in states] + [_paired(act, states[0], pair) for pair in met[1:]]
    lowered = [act[at] for at in LOWERED[act[0]] if act[at] in box[0]] if act[0] in LOWERED else []
    return states + [{**state, name: box[0][name][0]} for name in lowered for state in states]


def _paired(act, state, pair):
    """The state where the two numbers of a sum are these."""
    return {**state, act[2]: pair[0], act[3]: pair[1]}


def _met(act, numbers, width):
    """Pairs of words that the sum lets through, which meet each end of the results and of the words; none if none."""
    word, _, y, z = act
    if y == z:
        let = twice(word, numbers[y], width=width)[1]
        return [] if let is None else [(one, one) for one in (*let, 0) if let[0] <= one <= let[1]]
    results, firsts, seconds = pairs(word, numbers[y], numbers[z], width=width)
    if results is None:
        return []
    met = []
    for first in firsts:
        met.extend([(first, second) for second in pairs(word, (first, first), seconds, width=width)[2]])
    for second in seconds:
        met.extend([(first, second) for first in pairs(word, firsts, (second, second), width=width)[1]])
    # Where 0 is the least or the greatest product it is that of an end, so what is left to look for is by no 0.
    come_to = [sum_of(word, first, second) for first, second in met]
    return met + [_pair_for(word, result, firsts, seconds) for result in results if result not in come_to]


def _pair_for(word, result, firsts, seconds):
    """The first pair of which the sum comes to this result, which one of them does but by 0."""
    for first in range(firsts[0], firsts[1] + 1):
        for second in range(seconds[0], seconds[1] + 1):
            if second != 0 and sum_of(word, first, second) == result:
                return (first, second)
    return None


def doubtful(spot, box):
    """States of the tight box, among them one that fails the look of the act where any state of the box does."""
    act, numbers = spot.act, box[0]
    if act[0] == "check":
        left = _failing(act, box, spot.width)
        return [] if left is None else corners(left)
    if act[0] in ("over", "rest"):
        return [{**corners(box)[0], act[3]: 0}] if numbers[act[3]][0] <= 0 <= numbers[act[3]][1] else []
    if act[0] in ("minus", "times"):
        return [{**state, act[2]: end} for state in corners(box) for end in numbers[act[2]]]
    return corners(box)
