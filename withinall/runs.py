"""Runs: how states begin, what one step makes of a state, and whole runs of programs."""

from withinall.acts import is_word
from withinall.programs import act_at, def_at, first_place, names_of, next_place
from withinall.sums import sum_of

MOST_CALLS = 20


def beginning(program, name, given=()):
    """The state that the def begins with, where its params, from the first on, are given these."""
    definition = def_at(program, name)
    rows = definition[3]
    state = {each: () if each in rows else 0 for each in names_of(definition)}
    for param, worth in zip(definition[1], given):
        state[param] = tuple(worth) if param in rows else worth
    return state


def one_step(program, place, state, *, word=0):
    """What the step at the place makes of the state, with this word handed in."""
    act = act_at(program, place)
    if act[0] == "back":
        return ("back", state[act[1]])
    if act[0] == "call":
        return ("call", act[2], beginning(program, act[2], [state[name] for name in act[3]]))
    if act[0] == "go" or (act[0] == "if" and _is_true(act, state)):
        return ("on", act[-1], dict(state))
    why = _fault(program[0], act, state)
    if why is not None:
        return ("fault", why)
    return ("on", next_place(program, place)[1], _changed(act, state, word))


def behind(program, place, state, word):
    """How it goes on behind the call at the place, with its state and the word that goes back."""
    after = dict(state)
    after[act_at(program, place)[1]] = word
    return ("on", next_place(program, place)[1], after)


def _is_true(act, state):
    """Whether what an if or a check tests is so."""
    left, right = [state[side] if isinstance(side, str) else side for side in (act[1], act[3])]
    return left < right if act[2] == "<" else left <= right


def _fault(width, act, state):
    """Why the act faults, None where it doesn't."""
    if act[0] in ("add", "plus", "minus", "times"):
        return None if is_word(_result(act, state), width) else "great"
    if act[0] in ("over", "rest"):
        return "nought" if state[act[3]] == 0 else None
    if act[0] == "row":
        return "size" if state[act[2]] < 0 else None
    if act[0] == "get":
        return None if 0 <= state[act[3]] < len(state[act[2]]) else "place"
    if act[0] == "put":
        return None if 0 <= state[act[2]] < len(state[act[1]]) else "place"
    if act[0] == "check":
        return None if _is_true(act, state) else "check"
    return None


def _result(act, state):
    """What the sum of the act comes to, whether it is a word or not."""
    if act[0] == "add":
        return state[act[2]] + act[3]
    return sum_of(act[0], state[act[2]], state[act[3]])


def _changed(act, state, word):
    """The state behind an act that doesn't fault."""
    after = dict(state)
    if act[0] not in ("tell", "check", "if"):
        after[act[1]] = _made(act, state, word)
    return after


def _made(act, state, word):
    """What the act makes of the name that stands behind its own word."""
    if act[0] == "set":
        return act[2]
    if act[0] == "mid":
        return (state[act[2]] + state[act[3]]) // 2
    if act[0] == "row":
        return (0,) * state[act[2]]
    if act[0] == "get":
        return state[act[2]][state[act[3]]]
    if act[0] == "put":
        at = state[act[2]]
        cells = state[act[1]]
        return cells[:at] + (state[act[3]],) + cells[at + 1:]
    if act[0] == "length":
        return len(state[act[2]])
    if act[0] == "ask":
        return act[2] + (word - act[2]) % (act[3] - act[2] + 1)
    return _result(act, state)


def run(program, words=(), *, steps=200):
    """What a run with these words handed in tells, how it ends, and how many steps were begun."""
    walk = Walk(program, words, steps)
    while walk.goes_on():
        walk.forward()
    return (tuple(walk.told), walk.end, walk.many)


def trace(program, words=(), *, steps=200):
    """The place and the state ahead of each step that a run with these words begins."""
    walk = Walk(program, words, steps)
    seen = []
    while walk.goes_on():
        seen.append((walk.place, dict(walk.state)))
        walk.forward()
    return seen


class Walk:
    """A run on its way: where it stands, the calls that are open, and what it told."""

    def __init__(self, program, words, steps):
        self.program = program
        self.words = list(words)
        self.steps = steps
        self.asked = 0
        self.calls = []
        self.told = []
        self.many = 0
        self.end = None
        self.place = first_place(program, "main")
        self.state = beginning(program, "main")

    def goes_on(self):
        """Whether one more step is begun; where none may be, the run ends here."""
        if self.end is None and self.many >= self.steps:
            self.end = ("fault", "steps", self.place)
        return self.end is None

    def forward(self):
        """Begin the step that stands here."""
        self.many += 1
        act = act_at(self.program, self.place)
        made = one_step(self.program, self.place, self.state, word=self._word_for(act))
        if act[0] == "tell":
            self.told.append(self.state[act[1]])
        if made[0] == "on":
            self._go_on(made)
        elif made[0] == "call":
            self._begin_call(made)
        elif made[0] == "back":
            self._go_back(made[1])
        else:
            self.end = ("fault", made[1], self.place)

    def _word_for(self, act):
        """The next of the words where the act asks for one, 0 where it doesn't or none is left."""
        if act[0] != "ask" or self.asked == len(self.words):
            return 0
        self.asked += 1
        return self.words[self.asked - 1]

    def _go_on(self, made):
        """Stand at the label of this def that was told, with its state."""
        self.place = (self.place[0], made[1])
        self.state = made[2]

    def _begin_call(self, made):
        """Stand at the callee's beginning, where one more call may be open."""
        if len(self.calls) == MOST_CALLS:
            self.end = ("fault", "deep", self.place)
            return
        self.calls.append((self.place, self.state))
        self.place = first_place(self.program, made[1])
        self.state = made[2]

    def _go_back(self, word):
        """Stand behind the call that is open last; where none is, the run ends."""
        if len(self.calls) == 0:
            self.end = ("back", word)
            return
        self.place, self.state = self.calls.pop()
        self._go_on(behind(self.program, self.place, self.state, word))
