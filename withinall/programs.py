"""Programs: which things are programs, and what stands where in one."""

from withinall.acts import is_act, is_label, is_name, is_names, is_whole, names_in
from withinall.errors import NoProgram

MOST_WIDTH = 31
MOST_DEFS = 6
MOST_FINGERS = 3
MOST_ROWS = 2
MOST_STEPS = 30
MOST_PLAIN = 6


def is_program(thing):
    """Whether the thing is a program that is let by."""
    return _wrong_spot(thing) is None


def need_program(thing):
    """Refuse what is no program that is let by, by the first spot that isn't so."""
    spot = _wrong_spot(thing)
    if spot is not None:
        raise NoProgram(spot)


def names_of(definition):
    """All names of the def, rising."""
    params, fingers, rows, steps = definition[1:]
    names = [*params, *fingers, *rows]
    for step in steps:
        names.extend(names_in(step[1]))
    return sorted(set(names))


def numbers_of(definition):
    """The names of the def's fingers and plain ones, rising."""
    rows = definition[3]
    return [name for name in names_of(definition) if name not in rows]


def places_of(program):
    """All places of the program, rising."""
    return sorted([(definition[0], step[0]) for definition in program[1] for step in definition[4]])


def act_at(program, place):
    """The act that stands at the place."""
    steps = def_at(program, place[0])[4]
    return steps[_number_of(steps, place[1])][1]


def def_at(program, name):
    """The def that has the name."""
    names = [definition[0] for definition in program[1]]
    return program[1][names.index(name)]


def first_place(program, name):
    """The place of the least label of the def that has the name."""
    return (name, def_at(program, name)[4][0][0])


def next_place(program, place):
    """The place of the least greater label of the place's def, None behind the last."""
    steps = def_at(program, place[0])[4]
    number = _number_of(steps, place[1]) + 1
    if number == len(steps):
        return None
    return (place[0], steps[number][0])


def _number_of(steps, label):
    """The number of the step that has the label."""
    return [step[0] for step in steps].index(label)


def _wrong_spot(thing):
    """The first spot of the thing that isn't so, None where it is let by."""
    if not _is_frame(thing):
        return (None, None)
    width, defs = thing
    for number, definition in enumerate(defs):
        spot = _wrong_alone(width, number, definition)
        if spot is not None:
            return spot
    return _wrong_together(defs)


def _is_frame(thing):
    """Whether the thing has a width and as many defs as a program may have."""
    if not isinstance(thing, tuple) or len(thing) != 2:
        return False
    width, defs = thing
    if not is_whole(width) or not 1 <= width <= MOST_WIDTH:
        return False
    return isinstance(defs, tuple) and 1 <= len(defs) <= MOST_DEFS


def _wrong_alone(width, number, definition):
    """The first spot of the def that isn't so whatever the other defs are."""
    if not _has_parts(definition):
        return (number, None)
    fingers, rows, steps = definition[2:]
    below = -1
    for at, step in enumerate(steps):
        if not _is_step(step, below, width, fingers, rows):
            return (number, at)
        below = step[0]
    plain = [name for name in numbers_of(definition) if name not in fingers]
    if len(plain) > MOST_PLAIN:
        return (number, None)
    return None


def _has_parts(definition):
    """Whether the def's five parts are so, its steps only by how many they are."""
    if not isinstance(definition, tuple) or len(definition) != 5:
        return False
    name, params, fingers, rows, steps = definition
    if not is_name(name) or not is_names(params) or not is_names(fingers) or not is_names(rows):
        return False
    if len(params) != len(set(params)) or not _rises(fingers) or not _rises(rows):
        return False
    if len(fingers) > MOST_FINGERS or len(rows) > MOST_ROWS or any([finger in rows for finger in fingers]):
        return False
    return isinstance(steps, tuple) and 1 <= len(steps) <= MOST_STEPS


def _rises(names):
    """Whether each name stands above the one ahead of it."""
    return all([one < other for one, other in zip(names, names[1:])])


def _is_step(step, below, width, fingers, rows):
    """Whether the step is so by its label, above the one ahead of it, and by its act alone."""
    if not isinstance(step, tuple) or len(step) != 2:
        return False
    label, act = step
    return is_label(label) and label > below and is_act(act, width, fingers, rows)


def _wrong_together(defs):
    """The first spot that isn't so of defs that are so each by itself."""
    names = [definition[0] for definition in defs]
    for number, name in enumerate(names):
        if name in names[:number]:
            return (number, None)
    if not any([definition[0] == "main" and len(definition[1]) == 0 for definition in defs]):
        return (None, None)
    for number, definition in enumerate(defs):
        for at, step in enumerate(definition[4]):
            if not _hangs_together(defs, definition, at, step[1]):
                return (number, at)
    return None


def _hangs_together(defs, definition, at, act):
    """Whether the act goes to what there is, and goes on where it stands last."""
    steps = definition[4]
    if at == len(steps) - 1 and act[0] not in ("back", "go"):
        return False
    if act[0] in ("if", "go"):
        return act[-1] in [step[0] for step in steps]
    return act[0] != "call" or _is_served(defs, definition, act)


def _is_served(defs, definition, act):
    """Whether the call's callee is there and each of its params is given what it takes."""
    callees = [other for other in defs if other[0] == act[2]]
    if len(callees) == 0 or len(callees[0][1]) != len(act[3]):
        return False
    for param, name in zip(callees[0][1], act[3]):
        if _sort_taken(callees[0], param) not in _sorts_of(definition, name):
            return False
    return True


def _sort_taken(callee, param):
    """Of which sort what is given for the param has to be."""
    if param in callee[3]:
        return "row"
    if param in callee[2]:
        return "finger"
    return "number"


def _sorts_of(definition, name):
    """The sorts that a name of the def may be given for."""
    if name in definition[3]:
        return ("row",)
    if name in definition[2]:
        return ("finger", "number")
    return ("number",)
