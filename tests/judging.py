"""Papers, lists of steps, looks, groups and books as the promises have them, written otherwise than the package does."""

import itertools

import oracle
import states
from withinall.programs import act_at, def_at, first_place, next_place, places_of
from withinall.runs import beginning, behind, one_step

LOOKS = dict(add="great", plus="great", minus="great", times="great", over="nought", rest="nought", row="size",
             get="place", put="place", check="check")


def lies_in(box, state):
    """Whether the state lies in the box, or nothing."""
    return box is not None and states.in_box(box, state)


def is_state(program, name, thing):
    """Whether the thing is a state of the def."""
    width, defs = program
    one = next(each for each in defs if each[0] == name)
    if type(thing) is not dict or set(thing) != oracle.all_names(one):
        return False
    for each, worth in thing.items():
        if each in one[3] and (type(worth) is not tuple or len(worth) > width):
            return False
        words = worth if each in one[3] else [worth]
        if any(type(word) is not int or abs(word) > width for word in words):
            return False
    return True


def is_place(program, thing):
    return type(thing) is tuple and list(map(type, thing)) == [str, int] and thing in places_of(program)


def made_by(program, row):
    """The place and the state that the row makes; None of what is no row or makes nothing."""
    if type(row) is not tuple or not row or row[0] not in ("out", "behind") or type(row[0]) is not str:
        return None
    if len(row) != (4 if row[0] == "out" else 5) or not is_place(program, row[1]):
        return None
    place, state = row[1:3]
    if not is_state(program, place[0], state):
        return None
    act = act_at(program, place)
    if row[0] == "out":
        if type(row[3]) is not int or abs(row[3]) > program[0]:
            return None
        made = one_step(program, place, state, word=row[3])
    else:
        if act[0] != "call" or not is_place(program, row[3]) or row[3][0] != act[2]:
            return None
        other = act_at(program, row[3])
        if other[0] != "back" or not is_state(program, act[2], row[4]):
            return None
        made = behind(program, place, state, row[4][other[1]])
    if made[0] == "on":
        return (place[0], made[1]), made[2]
    return (first_place(program, made[1]), made[2]) if made[0] == "call" else None


def is_paper(program, table, thing):
    """Whether the thing is a paper of what is led out of the table."""
    if type(thing) is tuple and thing == ("begins",):
        return not lies_in(table[first_place(program, "main")], beginning(program, "main"))
    made = made_by(program, thing)
    return made is not None and stands(thing, table) and not lies_in(table[made[0]], made[1])


def stands(row, table):
    """Whether the states of the row lie in the table."""
    return lies_in(table[row[1]], row[2]) and (row[0] == "out" or lies_in(table[row[3]], row[4]))


def all_steps(program, table):
    """All single steps of the states that lie in the table."""
    held = {place: [] if box is None else states.states_in(box, program[0]) for place, box in table.items()}
    for place, those in held.items():
        act = act_at(program, place)
        for state in those:
            for word in states.words(program[0]) if act[0] == "ask" else [0]:
                yield ("out", place, state, word)
        for back in held:
            if act[0] == "call" and back[0] == act[2] and act_at(program, back)[0] == "back":
                for state, other in itertools.product(those, held[back]):
                    yield ("behind", place, state, back, other)


def holds(program, table):
    """Whether the table holds, by all states that lie in it."""
    if is_paper(program, table, ("begins",)):
        return False
    for place, box in table.items():
        if box is not None and any(not inside(led, table[other]) for other, led in states.led_from(program, place, box)):
            return False
        act = act_at(program, place)
        for back in table if act[0] == "call" and box is not None else ():
            if back[0] == act[2] and act_at(program, back)[0] == "back" and table[back] is not None:
                words = states.words_back(program, back, table[back])
                led = states.led_behind(program, place, box, words) if words else []
                if any(not inside(one, table[other]) for other, one in led):
                    return False
    return True


def inside(one, other):
    """Whether each bound of the one box, a tight one, is within the other box, or nothing."""
    if other is None:
        return False
    for name, (least, greatest) in one[0].items():
        if least < other[0][name][0] or greatest > other[0][name][1]:
            return False
    for row, (least, greatest, cells) in one[1].items():
        low, high, among = other[1][row]
        if least < low or greatest > high or (cells and (not among or cells[0] < among[0] or cells[1] > among[1])):
            return False
    return all(room <= other[2][pair] for pair, room in one[2].items())


def followed(program, rows):
    """What is known behind the rows, or the number of the first that isn't so."""
    known = dict.fromkeys(places_of(program))
    main = first_place(program, "main")
    known[main] = states.hull_of(def_at(program, "main"), [beginning(program, "main")])
    for number, row in enumerate(rows):
        made = made_by(program, row)
        if made is None or not stands(row, known):
            return number
        place, state = made
        known[place] = states.wider(known[place], states.hull_of(def_at(program, place[0]), [state]))
    return known


def ways(program):
    """All pairs of places of which a way leads from the one to the other."""
    found = set()
    for place in places_of(program):
        kind, *parts = act_at(program, place)
        if kind in ("if", "go"):
            found.add((place, (place[0], parts[-1])))
        if kind not in ("go", "back"):
            found.add((place, next_place(program, place)))
        if kind == "call":
            found.add((place, first_place(program, parts[1])))
            for label, act in def_at(program, parts[1])[4]:
                if act[0] == "back":
                    found.add(((parts[1], label), next_place(program, place)))
    return found


def groups(program):
    """The groups, by what leads to what in the end."""
    places = places_of(program)
    leads = {place: {place} for place in places}
    pairs = ways(program)
    while True:
        before = {place: len(leads[place]) for place in places}
        for one, other in pairs:
            leads[one] |= leads[other]
        if before == {place: len(leads[place]) for place in places}:
            break
    return sorted({tuple(other for other in places if other in leads[place] and place in leads[other])
                   for place in places})


def fates(program, table, before=None, table_before=None):
    """The rows of a book behind a telling, by the program that was told ahead and its table, if one was."""
    return [_fate(group, program, table, before, table_before) for group in groups(program)]


def _fate(group, program, table, before, table_before):
    cause = None
    if before is None or group not in groups(before):
        cause = ("new",)
    elif program[0] != before[0]:
        cause = ("width",)
    else:
        causes = itertools.chain(_by_defs(group, program, before), _by_steps(group, program, before),
                                 _from_outside(group, program, table, before, table_before))
        cause = next(causes, None)
    return (group, "kept") if cause is None else (group, "reckoned", cause)


def _by_defs(group, program, before):
    for name in sorted({place[0] for place in group}):
        heads = [(one[1:4], oracle.all_names(one)) for one in (def_at(program, name), def_at(before, name))]
        if heads[0] != heads[1]:
            yield ("def", name)
    firsts = [{one[0]: min(label for label, _ in one[4]) for one in each[1]} for each in (program, before)]
    for name in sorted({*firsts[0], *firsts[1]}):
        if len({name in each and (name, each[name]) in group for each in firsts}) == 2:
            yield ("first", name)


def _by_steps(group, program, before):
    for place in group:
        if _step(program, place) != _step(before, place):
            yield ("step", place)


def _step(program, place):
    return act_at(program, place), next_place(program, place)


def _from_outside(group, program, table, before, table_before):
    now, then = ({one for one, other in ways(each) if other in group and one not in group} for each in (program, before))
    for place in sorted(now | then):
        if place in now ^ then:
            yield ("from", place)
        elif (_step(program, place), table[place]) != (_step(before, place), table_before[place]):
            yield ("from", place)
