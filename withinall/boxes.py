"""Boxes: from where to where the numbers, lengths, cells and rooms of a def's states reach."""

from withinall.programs import def_at, numbers_of


def box_of(program, name, state):
    """The box of this one state of the def that has the name."""
    definition = def_at(program, name)
    return boxed(state, numbers_of(definition), definition[2], definition[3])


def boxed(state, names, fingers, rows):
    """The box of this one state of a def whose numbers have these names."""
    numbers = {name: (state[name], state[name]) for name in names}
    kept = {row: (len(state[row]), len(state[row]), _cells_of(state[row])) for row in rows}
    rooms = {(finger, row): state[finger] - len(state[row]) for finger in fingers for row in rows}
    return (numbers, kept, rooms)


def _cells_of(cells):
    """From where to where the cells of one row reach, None where it has none."""
    return None if len(cells) == 0 else (min(cells), max(cells))


def copied(box):
    """The same box of new dicts, or nothing."""
    if box is None:
        return None
    numbers, rows, rooms = box
    return (dict(numbers), dict(rows), {pair: rooms[pair] for pair in rooms})


def lies(box, state):
    """Whether the state lies in the box; none lies in nothing."""
    if box is None:
        return False
    numbers, rows, rooms = box
    for name, (least, greatest) in numbers.items():
        if not least <= state[name] <= greatest:
            return False
    for row, part in rows.items():
        if not _row_lies(part, state[row]):
            return False
    return all([state[finger] - len(state[row]) <= room for (finger, row), room in rooms.items()])


def _row_lies(part, cells):
    """Whether a row of these cells is within what a box has of it."""
    least, greatest, reach = part
    if not least <= len(cells) <= greatest:
        return False
    if reach is None:
        return len(cells) == 0
    return all([reach[0] <= cell <= reach[1] for cell in cells])


def hull(one, other):
    """The hull of two boxes, each of which may be nothing."""
    if one is None or other is None:
        return copied(other if one is None else one)
    numbers, rows, rooms = one
    more_numbers, more_rows, more_rooms = other
    return (
        {name: _spanned(numbers[name], more_numbers[name]) for name in numbers},
        {row: _rows_spanned(rows[row], more_rows[row]) for row in rows},
        {pair: max(rooms[pair], more_rooms[pair]) for pair in rooms},
    )


def _spanned(one, other):
    """From the least of both to the greatest."""
    return (min(one[0], other[0]), max(one[1], other[1]))


def _rows_spanned(one, other):
    """What the hull has of a row of which two boxes have these."""
    least, greatest = _spanned(one, other)
    if one[2] is None or other[2] is None:
        return (least, greatest, other[2] if one[2] is None else one[2])
    return (least, greatest, _spanned(one[2], other[2]))


def met(one, other):
    """What two boxes have in common, bound by bound; nothing where one is nothing."""
    if one is None or other is None:
        return None
    numbers, rows, rooms = one
    more_numbers, more_rows, more_rooms = other
    return (
        {name: _shared(numbers[name], more_numbers[name]) for name in numbers},
        {row: _rows_shared(rows[row], more_rows[row]) for row in rows},
        {pair: min(rooms[pair], more_rooms[pair]) for pair in rooms},
    )


def _shared(one, other):
    """From the greater of the leasts to the lesser of the greatests, wherever that is."""
    return (max(one[0], other[0]), min(one[1], other[1]))


def _rows_shared(one, other):
    """What two boxes met have of a row of which they have these."""
    least, greatest = _shared(one, other)
    if one[2] is None or other[2] is None:
        return (least, greatest, None)
    return (least, greatest, _none_if_turned(_shared(one[2], other[2])))


def _none_if_turned(stretch):
    """The stretch, None where its least comes above its greatest."""
    return None if stretch[0] > stretch[1] else stretch


def tight(box, *, width):
    """The hull of the boxes of all states of the width that lie in the box, nothing where none does."""
    if box is None:
        return None
    numbers, rows, rooms = box
    tight_numbers = {name: (max(least, -width), min(greatest, width)) for name, (least, greatest) in numbers.items()}
    tight_rows = {row: _row_cut(part, width) for row, part in rows.items()}
    # A room lowers a finger by its row's greatest length, and lengthens a row by its finger's least word. Neither of
    # these two is changed by any room, so once through is enough.
    for (finger, row), room in rooms.items():
        least, greatest = tight_numbers[finger]
        shortest, longest, cells = tight_rows[row]
        tight_numbers[finger] = (least, min(greatest, longest + room))
        tight_rows[row] = (max(shortest, least - room), longest, cells)
    if _has_turned(tight_numbers) or _has_turned(tight_rows):
        return None
    tight_rooms = {}
    for (finger, row), room in rooms.items():
        tight_rooms[finger, row] = min(room, tight_numbers[finger][1] - tight_rows[row][0])
    return (tight_numbers, tight_rows, tight_rooms)


def _row_cut(part, width):
    """What a box of the width has of a row, fingers left aside: no cells where it has no length, and the other way."""
    least, greatest, cells = part
    words = None if cells is None else _none_if_turned(_shared(cells, (-width, width)))
    if words is None or greatest <= 0:
        return (max(least, 0), min(greatest, 0), None)
    return (max(least, 0), min(greatest, width), words)


def _has_turned(parts):
    """Whether one of the parts has its least above its greatest."""
    return any([part[0] > part[1] for part in parts.values()])


def within(one, other):
    """Whether each state that lies in the one, a tight box or nothing, lies in the other."""
    if one is None or other is None:
        return one is None
    numbers, rows, rooms = other
    for name, stretch in one[0].items():
        if not _reaches(numbers[name], stretch):
            return False
    for row, part in one[1].items():
        if not _reaches(rows[row], part) or not _holds_cells(rows[row][2], part[2]):
            return False
    return all([room <= rooms[pair] for pair, room in one[2].items()])


def _reaches(stretch, inner):
    """Whether the inner stretch is within the other."""
    return stretch[0] <= inner[0] and inner[1] <= stretch[1]


def _holds_cells(cells, inner):
    """Whether the inner cells, which may be none, are within the others."""
    if inner is None:
        return True
    return cells is not None and _reaches(cells, inner)
