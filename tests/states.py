"""States gone through one by one: boxes, where they lead and least tables, as the promises have them, and by no sums."""

import itertools

import oracle
from withinall.programs import act_at, def_at, first_place, next_place, places_of
from withinall.runs import beginning, behind, one_step


def words(width):
    return range(-width, width + 1)


def stretch(numbers):
    """From the least to the greatest, None where there is none."""
    numbers = list(numbers)
    return (min(numbers), max(numbers)) if numbers else None


def all_rows(width, cells=None):
    """All tuples of at most so many words, of words from what to what where that is told."""
    among = words(width) if cells is None else cells
    return [row for length in range(width + 1) for row in itertools.product(among, repeat=length)]


def in_box(box, state):
    """Whether the state lies in the box."""
    numbers, rows, rooms = box
    so = [least <= state[name] <= greatest for name, (least, greatest) in numbers.items()]
    for row, (least, greatest, cells) in rows.items():
        so.append(len(state[row]) in range(least, greatest + 1))
        so.append(not state[row] if cells is None else all(cells[0] <= cell <= cells[1] for cell in state[row]))
    so += [state[finger] <= len(state[row]) + room for (finger, row), room in rooms.items()]
    return all(so)


def states_in(box, width):
    """All states of the width that lie in the box."""
    numbers, rows, _ = box
    names = [*numbers, *rows]
    parts = [[word for word in words(width) if least <= word <= greatest] for least, greatest in numbers.values()]
    for least, greatest, cells in rows.values():
        among = [] if cells is None else [word for word in words(width) if cells[0] <= word <= cells[1]]
        parts.append([row for row in all_rows(width, among) if least <= len(row) <= greatest])
    made = (dict(zip(names, state)) for state in itertools.product(*parts))
    return [state for state in made if in_box(box, state)]


def hull_of(definition, states):
    """The hull of the boxes of these states of the def, None of none."""
    states = list(states)
    if not states:
        return None
    _, _, fingers, rows, _ = definition
    numbers = oracle.all_names(definition) - set(rows)
    return (
        {name: stretch(state[name] for state in states) for name in numbers},
        {row: (*stretch(len(state[row]) for state in states), stretch(cell for state in states for cell in state[row]))
         for row in rows},
        {(finger, row): max(state[finger] - len(state[row]) for state in states)
         for finger in fingers for row in rows},
    )


def led_from(program, place, box):
    """Where the box leads, by one step of each state that lies in it, with each word."""
    found = {}
    asks = act_at(program, place)[0] == "ask"
    for state in states_in(box, program[0]):
        for word in words(program[0]) if asks else [0]:
            made = one_step(program, place, state, word=word)
            if made[0] == "on":
                found.setdefault((place[0], made[1]), []).append(made[2])
            elif made[0] == "call":
                found.setdefault(first_place(program, made[1]), []).append(made[2])
    return [(other, hull_of(def_at(program, other[0]), found[other])) for other in sorted(found)]


def led_behind(program, place, box, back):
    """Where the box leads behind the call, by each state and each word."""
    made = [behind(program, place, state, word) for state in states_in(box, program[0])
            for word in words(program[0]) if back[0] <= word <= back[1]]
    if not made:
        return []
    assert {label for _, label, _ in made} == {next_place(program, place)[1]}
    return [(next_place(program, place), hull_of(def_at(program, place[0]), [state for _, _, state in made]))]


def words_back(program, place, box):
    """The stretch of the words that go back."""
    return stretch(one_step(program, place, state)[1] for state in states_in(box, program[0]))


def odd_box(chance, definition, width):
    """Some box of the def, now and then a wrong one: turned, beyond the words, without cells, with any rooms."""
    _, _, fingers, rows, _ = definition

    def some(least, greatest):
        one, other = chance.randint(least, greatest), chance.randint(least, greatest)
        return (one, other) if chance.random() < 0.05 else (min(one, other), max(one, other))

    return (
        {name: some(-width - 1, width + 1) for name in sorted(oracle.all_names(definition) - set(rows))},
        {row: (*some(-1, width + 1), None if chance.random() < 0.15 else some(-width - 1, width + 1)) for row in rows},
        {(finger, row): chance.randint(-width - 2, width + 2) for finger in fingers for row in rows},
    )


def drawn_state(chance, box):
    """Some state that lies in the tight box: the rows are laid first, as long as it lets them be, then the fingers."""
    numbers, rows, rooms = box
    state = {}
    for row, (_, greatest, cells) in rows.items():
        state[row] = tuple(chance.randint(*cells) for _ in range(greatest))
    for name, (least, greatest) in numbers.items():
        state[name] = chance.randint(least, greatest)
    for row, (least, _, _) in rows.items():
        shortest = max([least, *(state[finger] - room for (finger, other), room in rooms.items() if other == row)])
        state[row] = state[row][:chance.randint(shortest, len(state[row]))]
    return state


def wider(one, other):
    """The hull of two boxes that are tight, or nothing."""
    if one is None or other is None:
        return other if one is None else one
    rows = {}
    for row in one[1]:
        cells = [part[1][row][2] for part in (one, other) if part[1][row][2]]
        rows[row] = (min(one[1][row][0], other[1][row][0]), max(one[1][row][1], other[1][row][1]),
                     stretch(itertools.chain(*cells)))
    return (
        {name: stretch(one[0][name] + other[0][name]) for name in one[0]},
        rows,
        {pair: max(one[2][pair], other[2][pair]) for pair in one[2]},
    )


def least_table(program):
    """The least table: all that is led out is put in, round by round, until nothing is."""
    table = dict.fromkeys(places_of(program))
    main = first_place(program, "main")
    table[main] = hull_of(def_at(program, "main"), [beginning(program, "main")])
    led = {}
    while True:
        before = dict(table)
        for place in table:
            if table[place] is not None and led.get(place) != table[place]:
                led[place] = table[place]
                for other, box in led_from(program, place, table[place]):
                    table[other] = wider(table[other], box)
        for place in table:
            act = act_at(program, place)
            if act[0] == "call" and table[place] is not None:
                for other in table:
                    if other[0] == act[2] and act_at(program, other)[0] == "back" and table[other] is not None:
                        back = words_back(program, other, table[other])
                        for following, box in led_behind(program, place, table[place], back):
                            table[following] = wider(table[following], box)
        if table == before:
            return table
