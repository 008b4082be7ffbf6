"""Machines: rows made of a program without some of its looks, and how they run, their cells in one memory."""

from withinall.acts import is_word
from withinall.looks import WHYS
from withinall.programs import act_at, def_at, first_place, next_place, places_of
from withinall.runs import MOST_CALLS
from withinall.sums import sum_of


def compiled(program, *, left_out=()):
    """The rows of the machine without the looks at these places.

    The first row is (width, where to begin). Each other one is (place, act, whether it looks, the number of the next
    row or None, that of the row to go to or None, what a call gives: for each param its name, what is given for it,
    and whether that is a row).
    """
    numbers = {place: number + 1 for number, place in enumerate(places_of(program))}
    rows = [(program[0], numbers[first_place(program, "main")])]
    for place in numbers:
        act = act_at(program, place)
        looks = act[0] in WHYS and place not in left_out
        target = _target(program, place, act)
        following = numbers.get(next_place(program, place))
        rows.append((place, act, looks, following, numbers.get(target), _given(program, act)))
    return rows


def _target(program, place, act):
    """The place that the act goes to, or calls, other than the next; None where there is none."""
    if act[0] in ("if", "go"):
        return (place[0], act[-1])
    return first_place(program, act[2]) if act[0] == "call" else None


def _given(program, act):
    """What a call gives for each param, and whether that is a row."""
    if act[0] != "call":
        return ()
    callee = def_at(program, act[2])
    return tuple([(param, name, param in callee[3]) for param, name in zip(callee[1], act[3])])


def run_rows(rows, words=(), *, steps=200):
    """What the run of a machine tells, how it ends, how many steps it began, and how often it looked."""
    machine = Machine(rows, words, steps)
    while machine.goes_on():
        machine.forward()
    return (tuple(machine.told), machine.end, machine.many, machine.looks)


class Machine:
    """A machine on its way: where it stands, its memory and its top, its calls, what it told."""

    def __init__(self, rows, words, steps):
        self.rows = rows
        self.width, self.at = rows[0]
        self.words = list(words)
        self.steps = steps
        self.asked = 0
        self.memory = {}
        self.top = 0
        # Numbers and rows that aren't here yet are 0, or lie at 0, of no cells.
        self.numbers = {}
        self.lying = {}
        self.calls = []
        self.told = []
        self.many = 0
        self.looks = 0
        self.end = None

    def goes_on(self):
        """Whether one more step is begun; where none may be, the run ends here."""
        if self.end is None and self.many >= self.steps:
            self.end = ("fault", "steps", self.rows[self.at][0])
        return self.end is None

    def forward(self):
        """Begin the step that stands here."""
        place, act, looks, following, target, given = self.rows[self.at]
        self.many += 1
        if looks:
            self.looks += 1
            if self._fails(act):
                self.end = ("fault", WHYS[act[0]], place)
                return
        if act[0] == "call":
            self._call(place, target, given)
        elif act[0] == "back":
            self._go_back(self._number(act[1]))
        elif act[0] == "go" or (act[0] == "if" and self._is_true(act)):
            self.at = target
        else:
            self._do(act)
            self.at = following

    def _number(self, side):
        """What the number holds that has the name; a word itself."""
        return self.numbers.get(side, 0) if isinstance(side, str) else side

    def _is_true(self, act):
        """Whether what an if or a check tests is so."""
        left, right = self._number(act[1]), self._number(act[3])
        return left < right if act[2] == "<" else left <= right

    def _fails(self, act):
        """Whether the look of the act is failed."""
        if act[0] == "check":
            return not self._is_true(act)
        if act[0] == "row":
            return self._number(act[2]) < 0
        if act[0] in ("get", "put"):
            row, index = (act[2], act[3]) if act[0] == "get" else (act[1], act[2])
            return not 0 <= self._number(index) < self._lies_at(row)[1]
        if act[0] in ("over", "rest"):
            return self._number(act[3]) == 0
        return not is_word(self._sum(act), self.width)

    def _lies_at(self, row):
        """Where the row lies, and how many cells it has."""
        return self.lying.get(row, (0, 0))

    def _cell(self, row, index):
        """Where in the memory the cell of the row is."""
        return self._lies_at(row)[0] + self._number(index)

    def _sum(self, act):
        """What one of the sums comes to, whether it is a word or not; by 0 it is 0."""
        first, second = self._number(act[2]), self._number(act[3])
        if act[0] == "add":
            return first + second
        if act[0] in ("over", "rest") and second == 0:
            return 0
        return sum_of(act[0], first, second)

    def _do(self, act):
        """Do an act that goes on to the next row, failed or not."""
        if act[0] == "tell":
            self.told.append(self._number(act[1]))
        elif act[0] == "row":
            # Of a size below 0 these are no cells.
            self.lying[act[1]] = self._laid([0] * self._number(act[2]))
        elif act[0] == "put":
            self.memory[self._cell(act[1], act[2])] = self._number(act[3])
        elif act[0] not in ("check", "if"):
            self.numbers[act[1]] = self._made(act)

    def _laid(self, cells):
        """Lay the cells from the top on; where they lie, and how many they are."""
        least = self.top
        for cell in cells:
            self.memory[self.top] = cell
            self.top += 1
        return (least, len(cells))

    def _made(self, act):
        """The word that the number behind the act's own word becomes."""
        if act[0] == "set":
            return act[2]
        if act[0] == "mid":
            return (self._number(act[2]) + self._number(act[3])) // 2
        if act[0] == "get":
            return self.memory.get(self._cell(act[2], act[3]), 0)
        if act[0] == "length":
            return self._lies_at(act[2])[1]
        if act[0] == "ask":
            return act[2] + (self._word() - act[2]) % (act[3] - act[2] + 1)
        return (self._sum(act) + self.width) % (2 * self.width + 1) - self.width

    def _word(self):
        """The next of the words, 0 where none is left."""
        if self.asked == len(self.words):
            return 0
        self.asked += 1
        return self.words[self.asked - 1]

    def _call(self, place, target, given):
        """Stand at the callee's first row, where one more call may be open."""
        if len(self.calls) == MOST_CALLS:
            self.end = ("fault", "deep", place)
            return
        self.calls.append((self.at, self.numbers, self.lying, self.top))
        numbers, lying = {}, {}
        for param, name, of_row in given:
            if of_row:
                least, many = self._lies_at(name)
                lying[param] = self._laid([self.memory[least + at] for at in range(many)])
            else:
                numbers[param] = self._number(name)
        self.at, self.numbers, self.lying = target, numbers, lying

    def _go_back(self, word):
        """Stand behind the call that is open last, the top as it was ahead of it; where none is, the run ends."""
        if len(self.calls) == 0:
            self.end = ("back", word)
            return
        at, self.numbers, self.lying, self.top = self.calls.pop()
        row = self.rows[at]
        self.numbers[row[1][1]] = word
        self.at = row[3]
