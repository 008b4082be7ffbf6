"""Looks: what steps look at, and which looks no state of a table fails."""

from withinall.boxes import tight
from withinall.errors import NoPlace
from withinall.judges import Judge
from withinall.leads import Spot
from withinall.programs import act_at, places_of
from withinall.runs import one_step, run
from withinall.tries import doubtful

# Why a step of each act faults that looks at something.
WHYS = {
    "add": "great",
    "plus": "great",
    "minus": "great",
    "times": "great",
    "over": "nought",
    "rest": "nought",
    "row": "size",
    "get": "place",
    "put": "place",
    "check": "check",
}


def looks(program):
    """All looks of the program: their places, rising, each with its why."""
    found = []
    for place in places_of(program):
        word = act_at(program, place)[0]
        if word in WHYS:
            found.append((place, WHYS[word]))
    return found


def safe(program, table):
    """The places, rising, of the looks that no state of the table fails."""
    return [place for place, _ in looks(program) if _failing_at(program, table, place) is None]


def failing(program, table, place):
    """A state that lies in the table at the place and fails its look, None where none does."""
    _why_at(program, place)
    return _failing_at(program, table, place)


def _why_at(program, place):
    """Why a step of the place's look faults; refused where the place has no look."""
    if not Judge(program).is_place(place) or act_at(program, place)[0] not in WHYS:
        raise NoPlace(place)
    return WHYS[act_at(program, place)[0]]


def _failing_at(program, table, place):
    """A state of the table that fails the look which is known to stand at the place, None where none does."""
    box = tight(table[place], width=program[0])
    if box is None:
        return None
    for state in doubtful(Spot(program, place), box):
        if one_step(program, place, state)[0] == "fault":
            return state
    return None


def first_trial(program, place, trials, *, steps=200):
    """The number of the first trial whose run faults at the place by the why of its look, None where none does."""
    why = _why_at(program, place)
    for number, words in enumerate(trials):
        if run(program, words, steps=steps)[1] == ("fault", why, place):
            return number
    return None
