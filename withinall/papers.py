"""Papers: what is led out of a table, and the single steps that show that nothing less holds."""

from withinall.boxes import lies, tight, within
from withinall.judges import Judge
from withinall.leads import Spot, led, led_behind
from withinall.programs import first_place
from withinall.runs import beginning
from withinall.tries import corners, tries


def led_out(program, table):
    """A paper of what is led out of the table, None where it holds."""
    if not _begins_in(program, table):
        return ("begins",)
    scout = Scout(program)
    held = {place: tight(table[place], width=program[0]) for place in scout.spots}
    for place in scout.spots:
        for step in scout.steps_out(place, held, table):
            if scout.judge.leads_out(step, table):
                return step
    return None


def _begins_in(program, table):
    """Whether main's beginning lies in the table."""
    return lies(table[first_place(program, "main")], beginning(program, "main"))


def is_paper(program, table, thing):
    """Whether the thing is a paper of what is led out of the table."""
    if thing == ("begins",):
        return not _begins_in(program, table)
    judge = Judge(program)
    return judge.is_step(thing) and judge.stands_in(thing, table) and judge.leads_out(thing, table)


def steps_of(program):
    """Single steps that show that nothing less than the least table holds."""
    proof = Proof(program)
    proof.finish()
    return proof.steps


def wrong_step(program, table, rows):
    """The number of the first row that isn't so, how many there are where another table is known behind them."""
    judge = Judge(program)
    known = judge.known_first()
    for number, row in enumerate(rows):
        if not judge.is_step(row) or not judge.stands_in(row, known):
            return number
        made = judge.made(row)
        if made is None:
            return number
        judge.put(known, made)
    return None if known == table else len(rows)


class Scout:
    """All that is asked of a program to find steps that lead out of boxes."""

    def __init__(self, program):
        self.judge = Judge(program)
        self.spots = {place: Spot(program, place) for place in self.judge.acts}
        self.calls = {definition[0]: [] for definition in program[1]}
        self.backs = {definition[0]: [] for definition in program[1]}
        for place, act in self.judge.acts.items():
            if act[0] == "call":
                self.calls[act[2]].append(place)
            elif act[0] == "back":
                self.backs[place[0]].append(place)

    def steps_out(self, place, held, table):
        """Steps from the place, of states of the boxes held, which are tight: none where no such step leads out of
        the table, else one at least that does, and enough of them to meet all that is led to."""
        box = held[place]
        if box is None:
            return []
        spot = self.spots[place]
        steps = []
        if _is_beyond(led(spot, box), table):
            steps = [("out", place, state, word) for state, word in tries(spot, box)]
        if spot.act[0] != "call":
            return steps
        ends = self._ends(spot.act[2], held)
        if len(ends) > 0 and _is_beyond(led_behind(spot, box, (ends[0][0], ends[1][0])), table):
            for _, back, other in ends:
                steps.extend([("behind", place, state, back, dict(other)) for state in corners(box)])
        return steps

    def _ends(self, name, held):
        """The least and the greatest word that goes back from the def, each with a back and a state there, if any."""
        backs = [back for back in self.backs[name] if held[back] is not None]
        if len(backs) == 0:
            return []
        stretches = {back: held[back][0][self.judge.acts[back][1]] for back in backs}
        least, one = min([(stretches[back][0], back) for back in backs])
        greatest, other = max([(stretches[back][1], back) for back in backs])
        return [(least, one, corners(held[one])[0]), (greatest, other, corners(held[other])[1])]


def _is_beyond(found, table):
    """Whether one of the boxes found, at the places beside them, has states beyond the table."""
    return any([not within(box, table[place]) for place, box in found])


class Proof:
    """Steps on their way, and what is known behind them."""

    def __init__(self, program):
        self.scout = Scout(program)
        self.known = self.scout.judge.known_first()
        self.steps = []
        self.waiting = {first_place(program, "main"): True}

    def finish(self):
        """Take steps until none leads out of what is known."""
        while len(self.waiting) > 0:
            for place in self.scout.spots:
                if place in self.waiting:
                    del self.waiting[place]
                    for step in self.scout.steps_out(place, self.known, self.known):
                        self._take(step)

    def _take(self, step):
        """Take the step where what it makes isn't known yet, and look again at all that hangs on it."""
        judge = self.scout.judge
        made = judge.made(step)
        if made is None or not judge.put(self.known, made):
            return
        place = made[0]
        self.steps.append(step)
        self.waiting[place] = True
        if judge.acts[place][0] == "back":
            for call in self.scout.calls[place[0]]:
                self.waiting[call] = True
