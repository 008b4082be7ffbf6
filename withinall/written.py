"""Written: how places, boxes and states are written in the desk's answers."""


def place_written(place):
    """The word of the place."""
    name, label = place
    return f"{name}:{label}"


def box_written(box):
    """The words of the box, or of nothing."""
    if box is None:
        return "nothing"
    numbers, rows, rooms = box
    parts = []
    for name in sorted(numbers):
        least, greatest = numbers[name]
        parts.append(f"{name} {least} {greatest}")
    for row in sorted(rows):
        least, greatest, cells = rows[row]
        reach = "-" if cells is None else f"{cells[0]}:{cells[1]}"
        parts.append(f"{row} {least} {greatest} {reach}")
    for finger, row in sorted(rooms):
        room = rooms[finger, row]
        parts.append(f"{finger}:{row} {room}")
    return _joined(parts)


def state_written(state):
    """The words of the state."""
    numbers = [name for name in sorted(state) if not isinstance(state[name], tuple)]
    rows = [name for name in sorted(state) if isinstance(state[name], tuple)]
    parts = []
    for name in numbers:
        parts.append(f"{name} {state[name]}")
    for row in rows:
        cells = ":".join([str(cell) for cell in state[row]])
        parts.append(f"{row} {cells}" if len(state[row]) > 0 else f"{row} -")
    return _joined(parts)


def _joined(parts):
    """The parts, commas between; any where there is none."""
    return ", ".join(parts) if len(parts) > 0 else "any"
