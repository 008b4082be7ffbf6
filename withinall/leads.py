"""Leads: where a box leads by one step, and what goes on behind a call."""

from withinall.boxes import copied, hull, tight
from withinall.cuts import tested
from withinall.makes import made, with_number
from withinall.programs import act_at, def_at, first_place, next_place, numbers_of

CONTRARY = {"<": "<=", "<=": "<"}


class Spot:
    """A place of a program, and all that is asked of the program to tell where boxes lead from there."""

    def __init__(self, program, place):
        self.width = program[0]
        self.name = place[0]
        self.act = act_at(program, place)
        self.following = next_place(program, place)
        self.callee = None
        self.entry = None
        self.callee_numbers = []
        if self.act[0] == "call":
            self.callee = def_at(program, self.act[2])
            self.entry = first_place(program, self.act[2])
            self.callee_numbers = numbers_of(self.callee)


def leads(program, place, box):
    """Where the box leads: each place that one step may lead to, with the tight box of what it makes."""
    held = tight(box, width=program[0])
    if held is None:
        return []
    return [(other, copied(found)) for other, found in led(Spot(program, place), held)]


def goes_behind(program, place, box, back):
    """Where the box leads behind the call at the place, with the words from a least to a greatest that go back."""
    held = tight(box, width=program[0])
    if held is None:
        return []
    return [(other, copied(found)) for other, found in led_behind(Spot(program, place), held, back)]


def backs(program, place, box):
    """From what to what the words reach that go back at the place, None where no state lies in the box."""
    held = tight(box, width=program[0])
    return None if held is None else held[0][act_at(program, place)[1]]


def led(spot, box):
    """Where the tight box leads from the spot; the boxes that are told may share their dicts with it."""
    act = spot.act
    if act[0] == "back":
        return []
    if act[0] == "call":
        return [(spot.entry, _begun(spot, box))]
    if act[0] == "go":
        return [((spot.name, act[1]), box)]
    if act[0] == "if":
        return _parted(spot, box)
    found = made(act, box, spot.width)
    return [] if found is None else [(spot.following, found)]


def led_behind(spot, box, back):
    """Where the tight box leads behind the call at the spot, with those of these numbers that are words."""
    least, greatest = max(back[0], -spot.width), min(back[1], spot.width)
    if least > greatest:
        return []
    return [(spot.following, with_number(box, spot.act[1], (least, greatest), {}))]


def _parted(spot, box):
    """Where a tight box leads from an if: what passes the test, and what passes the contrary."""
    left, sign, right, label = spot.act[1:]
    so = tested(box, (left, sign, right), width=spot.width)
    other = tested(box, (right, CONTRARY[sign], left), width=spot.width)
    target = (spot.name, label)
    if target == spot.following:
        return [(target, hull(so, other))]
    parts = [(place, found) for place, found in ((target, so), (spot.following, other)) if found is not None]
    return sorted(parts, key=lambda part: part[0])


def _begun(spot, box):
    """The box of the callee's beginnings, given what the call gives of the tight box."""
    numbers, rows, rooms = box
    params, fingers, callee_rows = spot.callee[1:4]
    given = {param: name for param, name in zip(params, spot.act[3])}
    begun = {name: numbers[given[name]] if name in given else (0, 0) for name in spot.callee_numbers}
    begun_rows = {row: rows[given[row]] if row in given else (0, 0, None) for row in callee_rows}
    begun_rooms = {}
    for finger in fingers:
        for row in callee_rows:
            if finger in given and row in given:
                begun_rooms[finger, row] = rooms[given[finger], given[row]]
            else:
                begun_rooms[finger, row] = begun[finger][1] - begun_rows[row][0]
    return (begun, begun_rows, begun_rooms)
