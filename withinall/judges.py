"""Judges: they know nothing but one step, and tell of single steps whether they are so and what they make."""

from withinall.acts import is_name, is_whole, is_word
from withinall.boxes import box_of, boxed, hull, lies
from withinall.programs import act_at, first_place, names_of, places_of
from withinall.runs import beginning, behind, one_step


class Judge:
    """All that is asked of a program to judge steps: ("out", place, state, word), or
    ("behind", place, state, back, other)."""

    def __init__(self, program):
        self.program = program
        self.acts = {place: act_at(program, place) for place in places_of(program)}
        self.fingers = {definition[0]: definition[2] for definition in program[1]}
        self.rows = {definition[0]: definition[3] for definition in program[1]}
        self.names = {definition[0]: names_of(definition) for definition in program[1]}

    def is_place(self, thing):
        """Whether the thing is a place of the program."""
        if not isinstance(thing, tuple) or len(thing) != 2:
            return False
        return is_name(thing[0]) and is_whole(thing[1]) and thing in self.acts

    def is_state(self, thing, name):
        """Whether the thing is a state of the def that has the name."""
        names = self.names[name]
        if not isinstance(thing, dict) or len(thing) != len(names):
            return False
        return all([each in thing and self._is_worth(thing[each], each in self.rows[name]) for each in names])

    def _is_worth(self, thing, of_row):
        """Whether the thing is a word, or the cells of a row."""
        width = self.program[0]
        if not of_row:
            return is_word(thing, width)
        return isinstance(thing, tuple) and len(thing) <= width and all([is_word(cell, width) for cell in thing])

    def is_step(self, thing):
        """Whether the thing is a single step of the program by its parts."""
        if not isinstance(thing, tuple) or len(thing) not in (4, 5):
            return False
        if not self.is_place(thing[1]) or not self.is_state(thing[2], thing[1][0]):
            return False
        if len(thing) == 4:
            return thing[0] == "out" and is_word(thing[3], self.program[0])
        act, back, other = self.acts[thing[1]], thing[3], thing[4]
        if thing[0] != "behind" or act[0] != "call" or not self.is_place(back):
            return False
        return back[0] == act[2] and self.acts[back][0] == "back" and self.is_state(other, back[0])

    def stands_in(self, step, table):
        """Whether the states of the step lie in the table."""
        if not lies(table[step[1]], step[2]):
            return False
        return step[0] == "out" or lies(table[step[3]], step[4])

    def made(self, step):
        """The place and the state that the step makes, None where it goes back or faults."""
        place, state = step[1:3]
        if step[0] == "behind":
            made = behind(self.program, place, state, step[4][self.acts[step[3]][1]])
        else:
            made = one_step(self.program, place, state, word=step[3])
        if made[0] == "on":
            return ((place[0], made[1]), made[2])
        return (first_place(self.program, made[1]), made[2]) if made[0] == "call" else None

    def known_first(self):
        """What is known ahead of all steps: main's beginning, and nothing elsewhere."""
        known = {place: None for place in self.acts}
        begun = beginning(self.program, "main")
        known[first_place(self.program, "main")] = box_of(self.program, "main", begun)
        return known

    def put(self, known, made):
        """Widen what is known by what a step made; whether it wasn't known."""
        place, state = made
        if lies(known[place], state):
            return False
        rows = self.rows[place[0]]
        numbers = [name for name in self.names[place[0]] if name not in rows]
        known[place] = hull(known[place], boxed(state, numbers, self.fingers[place[0]], rows))
        return True

    def leads_out(self, step, table):
        """Whether the step makes what doesn't lie in the table."""
        made = self.made(step)
        return made is not None and not lies(table[made[0]], made[1])
