"""Machines as the promise has them (point 18), by calls of Python's own, written otherwise than the package does."""

import collections

import judging
import oracle


class LeanPlayer(oracle.Player):
    """A run whose rows lie in one memory, without some looks."""

    def __init__(self, program, left_out, words, steps):
        super().__init__(program, words, steps)
        self.left_out = set(left_out)
        self.memory = collections.defaultdict(int)
        self.top = 0
        self.many = 0
        self.looks = 0

    def whole(self):
        """What the run tells."""
        try:
            end = ("back", self.called("main", [], 0))
        except oracle.Faulty as fault:
            end = ("fault", *fault.args)
        return (tuple(self.told), end, self.many, self.looks)

    def called(self, name, given, calls):
        _, params, _, rows, steps = self.defs[name]
        acts = dict(steps)
        labels = sorted(acts)
        held = dict.fromkeys(oracle.all_names(self.defs[name]), 0) | {row: (0, 0) for row in rows}
        before = self.top
        for param, worth in zip(params, given):
            held[param] = self.lay(worth) if param in rows else worth
        at = 0
        while True:
            label = labels[at]
            place = (name, label)
            if self.many == self.steps:
                raise oracle.Faulty("steps", place)
            self.many += 1
            at += 1
            kind, *parts = acts[label]
            if kind in judging.LOOKS and place not in self.left_out:
                self.looks += 1
                if self.fails(kind, parts, held):
                    raise oracle.Faulty(judging.LOOKS[kind], place)
            if kind == "back":
                self.top = before
                return held[parts[0]]
            if kind == "go" or (kind == "if" and self.so(parts, held)):
                at = labels.index(parts[-1])
            elif kind == "call":
                if calls == 20:
                    raise oracle.Faulty("deep", place)
                given_now = [[self.memory[held[each][0] + at] for at in range(held[each][1])] if each in rows else held[each]
                             for each in parts[2]]
                held[parts[0]] = self.called(parts[1], given_now, calls + 1)
            else:
                self.do(kind, parts, held)

    def lay(self, cells):
        """Lay the cells at the top."""
        lies = (self.top, len(cells))
        for cell in cells:
            self.memory[self.top] = cell
            self.top += 1
        return lies

    def sum(self, kind, parts, held):
        one, other = held[parts[1]], parts[2] if kind == "add" else held[parts[2]]
        return {"add": one + other, "plus": one + other, "minus": one - other, "times": one * other}[kind]

    def fails(self, kind, parts, held):
        """Whether the look is failed."""
        if kind in ("over", "rest"):
            return held[parts[2]] == 0
        if kind == "row":
            return held[parts[1]] < 0
        if kind == "get":
            return held[parts[2]] not in range(held[parts[1]][1])
        if kind == "put":
            return held[parts[1]] not in range(held[parts[0]][1])
        if kind == "check":
            return not self.so(parts, held)
        return abs(self.sum(kind, parts, held)) > self.width

    def do(self, kind, parts, held):
        """Do the act, whether its look would fail or not."""
        if kind == "tell":
            self.told.append(held[parts[0]])
        elif kind in ("add", "plus", "minus", "times"):
            worth = self.sum(kind, parts, held)
            while worth > self.width:
                worth -= 2 * self.width + 1
            while worth < -self.width:
                worth += 2 * self.width + 1
            held[parts[0]] = worth
        elif kind in ("over", "rest"):
            one, other = held[parts[1]], held[parts[2]]
            held[parts[0]] = 0 if other == 0 else divmod(one, other)[kind == "rest"]
        elif kind == "row":
            held[parts[0]] = self.lay([0] * held[parts[1]])
        elif kind == "get":
            held[parts[0]] = self.memory[held[parts[1]][0] + held[parts[2]]]
        elif kind == "put":
            self.memory[held[parts[0]][0] + held[parts[1]]] = held[parts[2]]
        elif kind == "length":
            held[parts[0]] = held[parts[1]][1]
        elif kind == "ask":
            held[parts[0]] = self.asked(parts[1], parts[2])
        elif kind == "mid":
            held[parts[0]] = (held[parts[1]] + held[parts[2]]) >> 1
        elif kind == "set":
            held[parts[0]] = parts[1]


def lean(program, left_out=(), words=(), steps=200):
    """What a machine without these looks tells."""
    return LeanPlayer(program, left_out, words, steps).whole()
