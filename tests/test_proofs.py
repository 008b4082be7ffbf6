"""Lists of steps that show that nothing less holds (point 15)."""

import copy
import random
import unittest

import judging
from cases import OwnCase
from samples import BACKWARDS, DEEP, SAMPLES, THINGS, great_program, made_program, small_program, with_part
from test_least import COUNT, HALVES, RING, main_alone
from test_papers import TWO, other_bounds, whole_table
from withinall.least import least
from withinall.papers import steps_of, wrong_step
from withinall.programs import is_program, places_of


class StepsCase(OwnCase):
    def check_steps(self, program):
        """The steps told of the program show its least table, by the package and by the promise written otherwise."""
        kept = copy.deepcopy(program)
        steps = steps_of(program)
        self.assertEqual(program, kept)
        self.assertIsInstance(steps, list)
        self.assertOwn(steps)
        table = least(program)
        self.assertIsNone(wrong_step(program, table, steps))
        return steps, table

    def judge(self, program, table, rows):
        """What is told of the rows, which is what the promise has."""
        kept = copy.deepcopy((program, table, rows))
        told = wrong_step(program, table, rows)
        self.assertEqual((program, table, rows), kept)
        known = judging.followed(program, rows)
        if isinstance(known, int):
            self.assertEqual(told, known)
        else:
            self.assertEqual(told, None if known == table else len(rows))
        self.assertNotIsInstance(told, bool)
        return told


class TestStepsOf(StepsCase):
    def test_by_hand(self):
        program = main_alone((0, ("ask", "x", -2, 5)), (1, ("back", "x")))
        steps, table = self.check_steps(program)
        self.assertEqual(sorted(row[:3] for row in steps), [("out", ("main", 0), {"x": 0})] * 2)
        self.assertEqual({(row[3] + 2) % 8 - 2 for row in steps}, {-2, 5})
        for rows in ([("out", ("main", 0), {"x": 0}, -2), ("out", ("main", 0), {"x": 0}, 5)],
                     [("out", ("main", 0), {"x": 0}, word) for word in (6, 1, 2, -3)]):
            self.assertIsNone(self.judge(program, table, rows))

    def test_nothing_to_show(self):
        program = main_alone((7, ("back", "x")))
        self.assertEqual(self.check_steps(program)[0], [])
        self.assertIsNone(self.judge(program, least(program), []))
        program = main_alone((7, ("check", "x", "<", 0)), (9, ("back", "x")))
        self.assertEqual(self.check_steps(program)[0], [])
        self.assertEqual(self.judge(program, whole_table(program), []), 0)

    def test_samples(self):
        """Loops, calls, calls within calls, places that nobody comes to."""
        for program in (*SAMPLES, COUNT, HALVES, RING, TWO):
            steps, table = self.check_steps(program)
            self.assertIsNone(self.judge(program, table, steps))
        self.assertTrue(any(row[0] == "behind" for row in steps_of(program=RING)))
        self.assertFalse(any(row[1][0] == "none" for row in steps_of(RING)))

    def test_drawn_programs(self):
        for seed in range(300):
            program = small_program(seed)
            steps, table = self.check_steps(program)
            self.assertIsNone(self.judge(program, table, steps))
            self.check_steps(made_program(seed))

    def test_anew(self):
        for program in (COUNT, TWO, DEEP):
            steps = steps_of(program)
            again = steps_of(program)
            self.assertEqual(steps, again)
            self.assertOwn([steps, again])
            for row in steps:
                row[2].clear()
            steps.clear()
            self.assertEqual(steps_of(program), again)

    def test_as_great_as_they_may_be(self):
        most = 0
        for seed in (0, 2, 4, 5, 11, 19, 20):
            program = great_program(seed)
            self.assertEqual((program[0], [len(one[4]) for one in program[1]]), (31, [30] * 6))
            most = max(most, len(self.check_steps(program)[0]))
        self.assertGreater(most, 5000)

    def test_bounds_that_rise_one_behind_the_other(self):
        names = ("u", "v", "w", "x", "y", "z", "p", "q", "r")
        steps = []
        for at, name in enumerate(names):
            ahead = ("if", names[at - 1], "<=", 30) if at else ("if", 1, "<=", 0)
            steps += [(*ahead, 3 * at + 3), ("if", 31, "<=", name, 3 * at + 3), ("add", name, name, 1)]
        program = main_alone(*enumerate([*steps, ("row", "a", "u"), ("row", "b", "v"), ("go", 0)]), width=31,
                             fingers=("p", "q", "r"), rows=("a", "b"))
        self.assertTrue(is_program(program))
        self.check_steps(program)


class TestWrongStep(StepsCase):
    def test_another_table(self):
        """How many rows there are, where all are so and something else is known behind them."""
        for program in (COUNT, TWO, BACKWARDS, *map(small_program, range(30))):
            steps, table = self.check_steps(program)
            nothing = dict.fromkeys(table)
            self.assertEqual(wrong_step(program, nothing, steps), len(steps))
            for other in (whole_table(program), *({**table, place: None} for place in table if table[place])):
                self.assertEqual(wrong_step(program, other, steps), None if other == table else len(steps))
            for place in table:
                for other in other_bounds(table, place) if table[place] else ():
                    if other != table:
                        self.assertEqual(wrong_step(program, other, steps), len(steps))
                if table[place] is None:
                    self.assertEqual(wrong_step(program, {**table, place: whole_table(program)[place]}, steps), len(steps))
            self.assertIsNone(wrong_step(program=program, table=table, rows=steps))

    def test_bound_by_bound(self):
        """A table whose boxes hold the same states is another one where a bound is."""
        program = main_alone((0, ("ask", "x", 0, 2)), (1, ("row", "a", "x")), (2, ("back", "x")), rows=("a",), fingers=("p",))
        steps, table = self.check_steps(program)
        numbers, rows, rooms = table["main", 2]
        self.assertEqual((rows, rooms), ({"a": (0, 2, (0, 0))}, {("p", "a"): 0}))
        for other in ((numbers, rows, {("p", "a"): 1}), (numbers, {"a": (-1, 2, (0, 0))}, rooms),
                      (numbers, {"a": (0, 2, (0, 1))}, rooms)):
            self.assertEqual(self.judge(program, {**table, ("main", 2): other}, steps), len(steps))
        for other in (({"x": (1, 0), "p": (0, 0)}, rows, rooms), None):
            self.assertEqual(self.judge(program, {**table, ("main", 2): other}, steps), len(steps))

    def test_rows_left_out_told_twice_exchanged(self):
        for program in (COUNT, TWO, HALVES, RING, *map(small_program, range(25))):
            steps, table = self.check_steps(program)
            chance = random.Random(len(steps))
            for at in chance.sample(range(len(steps)), min(12, len(steps))):
                self.judge(program, table, steps[:at] + steps[at + 1:])
                self.assertIsNone(self.judge(program, table, steps[:at + 1] + steps[at:]))
                self.assertIsNone(self.judge(program, table, steps + steps[at:at + 1]))
                self.judge(program, table, steps[:at])
                self.judge(program, table, steps[at:])
                other = chance.randrange(len(steps))
                exchanged = list(steps)
                exchanged[at], exchanged[other] = steps[other], steps[at]
                self.judge(program, table, exchanged)
            self.assertIsNone(self.judge(program, table, steps + steps))
            self.assertEqual(self.judge(program, table, []), 0 if steps else None)
            self.judge(program, table, steps[::-1])

    def test_states_that_are_not_known_yet(self):
        steps, table = self.check_steps(COUNT)
        self.assertEqual(self.judge(COUNT, table, [("out", ("main", 0), {"n": 1}, 0)]), 0)
        one = ("out", ("main", 0), {"n": 0}, 0)
        self.assertEqual(self.judge(COUNT, table, [one, ("out", ("main", 1), {"n": 1}, 0)]), 1)
        two = ("out", ("main", 1), {"n": 0}, 0)
        self.assertEqual(self.judge(COUNT, table, [one, two, one, two, ("out", ("main", 4), {"n": 0}, 0)]), 4)
        self.assertEqual(self.judge(COUNT, table, [one, two, one, two]), 4)

    def test_what_makes_nothing(self):
        """A back and a fault make nothing: such a row isn't so."""
        program = main_alone((0, ("over", "x", "x", "x")), (1, ("back", "x")))
        self.assertEqual(self.judge(program, least(program), [("out", ("main", 0), {"x": 0}, 0)]), 0)
        program = main_alone((0, ("back", "x")))
        self.assertEqual(self.judge(program, least(program), [("out", ("main", 0), {"x": 0}, 0)]), 0)
        program = main_alone((0, ("if", "x", "<", 1, 1)), (1, ("check", 1, "<=", "x")), (2, ("back", "x")))
        rows = [("out", ("main", 0), {"x": 0}, 0), ("out", ("main", 1), {"x": 0}, 0)]
        self.assertEqual(self.judge(program, least(program), rows), 1)
        self.assertIsNone(self.judge(program, least(program), rows[:1]))

    def test_behind(self):
        """What goes back has to be known at that back, of that callee, and the call has to be known, too."""
        steps, table = self.check_steps(TWO)
        at = next(number for number, row in enumerate(steps) if row[0] == "behind")
        _, place, state, back, other = steps[at]
        backs = [number for number, row in enumerate(steps) if row[1] == ("f", 1) or row[1] == ("f", 0)]
        self.assertLess(backs[0], at)
        self.judge(TWO, table, steps[:backs[0]] + [steps[at]])
        for part in (("f", 0), ("f", 1), ("main", 4), ("main", 3)):
            self.assertEqual(self.judge(TWO, table, steps[:at] + [("behind", place, state, part, other)]), at)
        self.assertEqual(self.judge(TWO, table, steps[:at] + [("behind", place, state, back, {**other, "u": 2, "p": 2})]), at)
        self.assertEqual(self.judge(TWO, table, steps[:at] + [("behind", ("main", 2), state, back, other)]), at)
        self.assertEqual(self.judge(TWO, table, [("behind", place, state, back, other)]), 0)
        self.assertEqual(self.judge(TWO, table, steps[:at] + [("out", place, state, back, other)]), at)
        self.assertEqual(self.judge(TWO, table, steps[:at] + [("behind", place, state, 0)]), at)

    def test_one_part_otherwise(self):
        for program in (TWO, COUNT, HALVES):
            steps, table = self.check_steps(program)
            chance = random.Random(7)
            for at in chance.sample(range(len(steps)), min(8, len(steps))):
                row = steps[at]
                odd = [list(row), row[:-1], (*row, 0), ("begins",), (row,), row[0], {"out": row}]
                for part in range(len(row)):
                    odd += [with_part(row, (part,), thing) for thing in (*THINGS, "out", "behind", *table)]
                for part in (2, 4)[:len(row) - 3]:
                    state = row[part]
                    odd += [with_part(row, (part,), {**state, "t": 0})]
                    for name in state:
                        odd.append(with_part(row, (part,), {other: state[other] for other in state if other != name}))
                        for thing in (True, 0, 1, -1, 2, 10, (), (0,), (1,), [], [0], (0,) * 10, (True,), "0", None):
                            odd.append(with_part(row, (part,), {**state, name: thing}))
                for thing in odd:
                    told = self.judge(program, table, [*steps[:at], thing, *steps[at + 1:]])
                    self.assertTrue(told is None or told >= at)

    def test_anything(self):
        for program in (TWO, COUNT):
            steps, table = self.check_steps(program)
            for thing in THINGS:
                self.assertEqual(self.judge(program, table, [thing]), 0)
                self.assertEqual(self.judge(program, table, [*steps, thing]), len(steps))
                self.assertEqual(self.judge(program, table, [steps[0], thing, *steps[1:]]), 1)
                self.assertEqual(self.judge(program, table, [steps[0], (thing,) * 4, *steps[1:]]), 1)
                self.assertEqual(self.judge(program, table, [steps[0], (thing,) * 5, ("out",) + (thing,) * 3]), 1)

    def test_steps_of_others(self):
        """Rows of another program: what is told is what the promise has."""
        for seed in range(120):
            one, other = small_program(seed), small_program(seed + 1)
            self.judge(one, least(one), steps_of(other))
            table = dict.fromkeys(places_of(one))
            self.judge(one, table, steps_of(one))

    def test_all_steps_in_any_order(self):
        """All steps of all states of the least table, in any order in which these are known, show the same."""
        for program in (TWO, COUNT, *map(small_program, range(20))):
            table = least(program)
            waiting = list(judging.all_steps(program, table))
            random.Random(4).shuffle(waiting)
            waiting = [step for step in waiting if judging.made_by(program, step) is not None][:800]
            rows = []
            known = judging.followed(program, [])
            while standing := [step for step in waiting if judging.stands(step, known)]:
                rows += standing
                waiting = [step for step in waiting if step not in standing]
                known = judging.followed(program, rows)
            self.assertEqual(self.judge(program, table, rows), None if known == table else len(rows))
            self.assertEqual(self.judge(program, table, waiting[:1] + rows), 0 if waiting else None)


if __name__ == "__main__":
    unittest.main()
