"""Groups: the places that lead to one another both ways."""

from withinall.programs import act_at, first_place, next_place, places_of


def groups(program):
    """All groups of the program, each a list of its places, rising, by their first."""
    found = []
    grouped = {}
    reached = reached_from(ways_of(program))
    for place in reached:
        if place not in grouped:
            group = [other for other in reached if other in reached[place] and place in reached[other]]
            found.append(group)
            for other in group:
                grouped[other] = True
    return found


def ways_of(program):
    """The places that a way leads to, of each place."""
    places = places_of(program)
    ways = {place: _labels_gone_to(program, place) for place in places}
    for place in places:
        act = act_at(program, place)
        if act[0] == "call":
            ways[place].append(first_place(program, act[2]))
            for back in places:
                if back[0] == act[2] and act_at(program, back)[0] == "back":
                    ways[back].append(next_place(program, place))
    return ways


def _labels_gone_to(program, place):
    """The places of its own def where the act at the place may go on."""
    act = act_at(program, place)
    if act[0] == "back":
        return []
    gone_to = [(place[0], act[-1])] if act[0] in ("if", "go") else []
    return gone_to if act[0] == "go" else gone_to + [next_place(program, place)]


def reached_from(ways):
    """The places that ways lead to one behind the other, of each place, itself among them."""
    reached = {}
    for place in ways:
        found = {place: True}
        waiting = [place]
        while len(waiting) > 0:
            last = waiting.pop()
            for other in ways[last]:
                if other not in found:
                    found[other] = True
                    waiting.append(other)
        reached[place] = found
    return reached
