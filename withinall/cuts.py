"""Cuts: what looks and tests leave of a tight box, tight again, or nothing where no state is left.

Boxes that are told may share their dicts with those handed in.
"""

from withinall.boxes import tight


def between(box, name, least, greatest, *, width):
    """What is left of the box where the number is from the least to the greatest."""
    numbers, rows, rooms = box
    low, high = numbers[name]
    if least <= low and high <= greatest:
        return box
    return tight(({**numbers, name: (max(low, least), min(high, greatest))}, rows, rooms), width=width)


def reached(box, row, index, *, width):
    """What is left of the box where the index is a place of the row."""
    numbers, rows, rooms = box
    least, greatest = numbers[index]
    shortest, longest, cells = rows[row]
    low = max(least, 0)
    cut_rooms = {pair: rooms[pair] for pair in rooms}
    if (index, row) in rooms:
        cut_rooms[index, row] = min(rooms[index, row], -1)
    cut_numbers = {**numbers, index: (low, min(greatest, longest - 1))}
    cut_rows = {**rows, row: (max(shortest, low + 1), longest, cells)}
    return tight((cut_numbers, cut_rows, cut_rooms), width=width)


def tested(box, test, *, width):
    """What is left of the box where the test, a side, a sign and a side, is so."""
    left, sign, right = test
    gap = 1 if sign == "<" else 0
    if left == right:
        return None if gap == 1 else box
    numbers, rows, rooms = box
    low, high = _reach_of(numbers, left), _reach_of(numbers, right)
    if low[0] + gap > high[1]:
        return None
    if low[1] + gap <= high[0]:
        return box
    cut_numbers = dict(numbers)
    if left in numbers:
        cut_numbers[left] = (low[0], min(low[1], high[1] - gap))
    if right in numbers:
        cut_numbers[right] = (max(high[0], low[0] + gap), high[1])
    return tight((cut_numbers, rows, _rooms_below(rooms, left, right, gap)), width=width)


def _reach_of(numbers, side):
    """From what to what a side of a test reaches."""
    return numbers[side] if side in numbers else (side, side)


def _rooms_below(rooms, left, right, gap):
    """The rooms where the left side is less than the right one by at least the gap."""
    cut_rooms = {pair: rooms[pair] for pair in rooms}
    for finger, row in rooms:
        if finger == left and (right, row) in rooms:
            cut_rooms[finger, row] = min(rooms[finger, row], rooms[right, row] - gap)
    return cut_rooms
