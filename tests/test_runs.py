"""Whole runs and their traces (point 9)."""

import copy
import math
import unittest

import oracle
from samples import BACKWARDS, DEEP, EVERY, FACTORIAL, SAMPLES, alone, made_program
from withinall.programs import act_at, first_place
from withinall.runs import beginning, behind, one_step, run, trace

WORDS = ((), (1,), (0, 0, 0), (-1, 5, 2, 2, -3, 1), (3, 1, 2, 3, 4, 5, 6, 7), (1,) * 200)


class TestEnds(unittest.TestCase):
    def test_back(self):
        self.assertEqual(run(alone()), ((), ("back", 0), 1))
        self.assertEqual(run(alone(("set", "x", -5))), ((), ("back", -5), 2))
        self.assertEqual(run(alone(("ask", "x", -5, 5), ("tell", "x"), ("tell", "p")), (4,)), ((4, 0), ("back", 4), 4))

    def test_each_fault(self):
        for why, acts in {"great": (("set", "x", 5), ("add", "x", "x", 1)),
                          "nought": (("tell", "x"), ("rest", "x", "y", "z")),
                          "size": (("set", "x", -1), ("row", "a", "x")),
                          "place": (("row", "a", "x"), ("get", "x", "a", "p")),
                          "check": (("set", "x", 3), ("check", "x", "<", 3))}.items():
            told = run(alone(*acts))
            self.assertEqual(told[1:], (("fault", why, ("main", 1)), 2))
            self.assertEqual(trace(alone(*acts))[-1][0], ("main", 1))

    def test_loops(self):
        self.assertEqual(run(BACKWARDS, (4, 7, -8, 9, 12)), ((12, 9, -8, 7), ("back", 4), 45))
        self.assertEqual(run(BACKWARDS, (0, 7)), ((), ("back", 0), 5))
        self.assertEqual(run(program=BACKWARDS, words=[12, *range(1, 13)], steps=500)[0], tuple(range(12, 0, -1)))

    def test_calls_within_calls(self):
        for n in range(0, 5):
            told, end, many = run(FACTORIAL, (n,))
            self.assertEqual((told, end), ((math.factorial(n),), ("back", math.factorial(n))))
            self.assertEqual(many, 4 + 5 * n + 3)
        told = run(FACTORIAL, (5,))
        self.assertEqual(told, ((), ("fault", "great", ("fac", 3)), 2 + 3 * 5 + 3 + 2 * 4 + 1))

    def test_main_called_too(self):
        main = ("main", (), (), (), ((0, ("ask", "n", 0, 3)), (1, ("if", "n", "<=", 0, 4)), (2, ("call", "x", "main", ())),
                                     (3, ("tell", "x")), (4, ("back", "n"))))
        self.assertEqual(run((5, (main,)), (3, 2, 1)), ((0, 1, 2), ("back", 3), 3 * 5 + 3))
        self.assertEqual(run((5, (main,)), (1,) * 21)[1:], (("fault", "deep", ("main", 2)), 63))
        self.assertEqual(run((5, (main,)), (1,) * 20)[1:], (("back", 1), 103))


class TestWords(unittest.TestCase):
    ASKS = alone(("ask", "x", -5, 5), ("tell", "x"), ("ask", "y", 1, 2), ("tell", "y"), ("ask", "x", -3, -1),
                 ("tell", "x"))

    def test_more_and_fewer_than_are_asked_for(self):
        self.assertEqual(run(self.ASKS)[0], (0, 2, -3))
        self.assertEqual(run(self.ASKS, ())[0], (0, 2, -3))
        self.assertEqual(run(self.ASKS, (-4,))[0], (-4, 2, -3))
        self.assertEqual(run(self.ASKS, (5, 1))[0], (5, 1, -3))
        self.assertEqual(run(self.ASKS, (5, 1, -1))[0], (5, 1, -1))
        self.assertEqual(run(self.ASKS, (5, 1, -1, 4, 4, 4))[0], (5, 1, -1))
        self.assertEqual(run(self.ASKS, (5, 4, 4, 4))[0], (5, 2, -2))

    def test_words_are_taken_by_asks_alone_and_in_calls_too(self):
        callee = ("f", (), (), (), ((0, ("ask", "n", -5, 5)), (1, ("back", "n"))))
        steps = ((0, ("tell", "y")), (1, ("ask", "x", -5, 5)), (2, ("call", "y", "f", ())), (3, ("tell", "x")),
                 (4, ("tell", "y")), (5, ("ask", "x", -5, 5)), (6, ("back", "x")))
        program = (5, (("main", (), (), (), steps), callee))
        self.assertEqual(run(program, (1, 2, 3)), ((0, 1, 2), ("back", 3), 9))
        self.assertEqual(run(program, (1, 2)), ((0, 1, 2), ("back", 0), 9))

    def test_what_is_handed_in_stays(self):
        words = [4, 7, -8, 9, 12]
        program = copy.deepcopy(BACKWARDS)
        self.assertEqual(run(program, words)[0], (12, 9, -8, 7))
        trace(program, words)
        self.assertEqual(words, [4, 7, -8, 9, 12])
        self.assertEqual(program, BACKWARDS)


class TestDeep(unittest.TestCase):
    def test_just_so_deep_and_one_more(self):
        for calls in range(1, 21):
            told = run(DEEP, (calls,))
            self.assertEqual(told, ((), ("back", max(1, calls - 1)), 3 + 4 * (calls - 1) + 2))
        for calls in (21, 22, 31):
            told = run(DEEP, (calls,))
            self.assertEqual(told, ((), ("fault", "deep", ("down", 2)), 2 + 3 * 20))
            self.assertEqual(len(trace(DEEP, (calls,))), 62)
            self.assertEqual(trace(DEEP, (calls,))[-1], (("down", 2), {"n": calls - 20, "x": 0}))

    def test_calls_that_went_back_are_no_more_open(self):
        callee = ("f", (), (), (), ((0, ("back", "n")),))
        main = ("main", (), (), (), ((0, ("call", "x", "f", ())), (1, ("go", 0))))
        self.assertEqual(run((1, (main, callee)), steps=300), ((), ("fault", "steps", ("main", 0)), 300))

    def test_calls_without_an_end(self):
        program = (1, (("main", (), (), (), ((0, ("call", "x", "main", ())), (1, ("back", "x")))),))
        self.assertEqual(run(program), ((), ("fault", "deep", ("main", 0)), 21))
        self.assertEqual(run(program, steps=21), ((), ("fault", "deep", ("main", 0)), 21))
        self.assertEqual(run(program, steps=20), ((), ("fault", "steps", ("main", 0)), 20))


class TestSteps(unittest.TestCase):
    def test_none_just_enough_and_one_too_few(self):
        self.assertEqual(run(FACTORIAL, steps=0), ((), ("fault", "steps", ("main", 0)), 0))
        self.assertEqual(trace(FACTORIAL, steps=0), [])
        self.assertEqual(run(EVERY, steps=0)[1], ("fault", "steps", first_place(EVERY, "main")))
        whole = run(FACTORIAL, (3,))
        self.assertEqual(run(FACTORIAL, (3,), steps=whole[2]), whole)
        self.assertEqual(run(FACTORIAL, (3,), steps=whole[2] - 1),
                         ((6,), ("fault", "steps", ("main", 3)), whole[2] - 1))

    def test_a_fault_at_the_last_step_that_is_let(self):
        program = alone(("check", 1, "<", 0))
        self.assertEqual(run(program, steps=1), ((), ("fault", "check", ("main", 0)), 1))
        self.assertEqual(run(program, steps=0), ((), ("fault", "steps", ("main", 0)), 0))

    def test_two_hundred_where_none_is_told(self):
        program = (1, (("main", (), (), (), ((4, ("go", 4)),)),))
        self.assertEqual(run(program), ((), ("fault", "steps", ("main", 4)), 200))
        self.assertEqual(run(program, ()), run(program, steps=200))
        self.assertEqual(trace(program), [(("main", 4), {})] * 200)
        self.assertEqual(run(program, steps=201)[2], 201)

    def test_just_two_hundred(self):
        def idle(many):
            acts = (("add", "x", "x", 1), ("if", "x", "<", many, 0))
            return alone(*acts, width=31)
        for loops in range(1, 32):
            self.assertEqual(run(idle(loops)), ((), ("back", loops), 2 * loops + 1))

    def test_steps_by_name_alone(self):
        for ask in (run, trace):
            with self.assertRaises(TypeError):
                ask(FACTORIAL, (), 3)

    def test_the_place_behind_a_call_is_one_more(self):
        for steps in range(20):
            places = [place for place, _ in trace(FACTORIAL, (2,), steps=30)]
            told = run(FACTORIAL, (2,), steps=steps)
            if steps < len(places):
                self.assertEqual(told[1:], (("fault", "steps", places[steps]), steps))
            else:
                self.assertEqual(told[1], ("back", 2))

    def test_many_steps(self):
        program = (1, (("main", (), (), (), ((0, ("tell", "x")), (1, ("go", 0)))),))
        told, end, many = run(program, steps=20001)
        self.assertEqual((told, end, many), ((0,) * 10001, ("fault", "steps", ("main", 1)), 20001))


class TestTrace(unittest.TestCase):
    def test_ahead_of_each_step(self):
        program = alone(("set", "x", 2), ("row", "a", "x"), ("put", "a", "p", "x"), ("tell", "x"), fingers=("p",),
                        rows=("a",))
        states = [{"a": (), "p": 0, "x": 0}, {"a": (), "p": 0, "x": 2}, {"a": (0, 0), "p": 0, "x": 2},
                  {"a": (2, 0), "p": 0, "x": 2}, {"a": (2, 0), "p": 0, "x": 2}]
        self.assertEqual(trace(program), [(("main", at), state) for at, state in enumerate(states)])
        self.assertEqual(trace(program=program, words=(), steps=2), [(("main", 0), states[0]), (("main", 1), states[1])])

    def test_of_calls(self):
        self.assertEqual(trace(FACTORIAL, (1,)), [
            (("main", 0), {"n": 0, "r": 0}), (("main", 1), {"n": 1, "r": 0}),
            (("fac", 0), {"k": 0, "m": 0, "n": 1}), (("fac", 1), {"k": 0, "m": 0, "n": 1}),
            (("fac", 2), {"k": 0, "m": 0, "n": 1}), (("fac", 0), {"k": 0, "m": 0, "n": 0}),
            (("fac", 10), {"k": 0, "m": 0, "n": 0}), (("fac", 11), {"k": 1, "m": 0, "n": 0}),
            (("fac", 3), {"k": 1, "m": 0, "n": 1}), (("fac", 4), {"k": 1, "m": 0, "n": 1}),
            (("main", 2), {"n": 1, "r": 1}), (("main", 3), {"n": 1, "r": 1})])

    def test_is_the_askers_own(self):
        told = trace(BACKWARDS, (2, 1, 1))
        kept = copy.deepcopy(told)
        self.assertEqual(len({id(state) for _, state in told}), len(told))
        for place, state in told:
            state.clear()
        told.clear()
        self.assertEqual(trace(BACKWARDS, (2, 1, 1)), kept)


class TestAgainstTheOracle(unittest.TestCase):
    def programs(self):
        return (*SAMPLES, *(made_program(seed) for seed in range(500)))

    def test_runs_and_traces(self):
        for number, program in enumerate(self.programs()):
            words = [max(-program[0], min(program[0], word)) for word in WORDS[number % len(WORDS)]]
            for steps in (0, 1, 7, 200):
                player = oracle.Player(program, words, steps)
                self.assertEqual(run(program, words, steps=steps), player.whole(), program)
                self.assertEqual(trace(program, words, steps=steps), player.begun, program)

    def test_traces_step_by_step(self):
        """Each state follows from the one ahead of it by one step, a call or what is behind one."""
        for program in self.programs():
            calls = []
            ahead = None
            for place, state in trace(program, (program[0],) * 3):
                if ahead is None:
                    self.assertEqual((place, state), (first_place(program, "main"), beginning(program, "main")))
                else:
                    self.follows(program, calls, ahead, (place, state))
                ahead = (place, state)

    def follows(self, program, calls, ahead, told):
        place, state = ahead
        words = range(-program[0], program[0] + 1) if act_at(program, place)[0] == "ask" else (0,)
        made = [one_step(program, place, state, word=word) for word in words]
        if made[0][0] == "call":
            calls.append(ahead)
            self.assertEqual(told, (first_place(program, made[0][1]), made[0][2]))
            return
        if made[0][0] == "back":
            place, state = calls.pop()
            made = [behind(program, place, state, made[0][1])]
        self.assertIn(told, [((place[0], label), after) for _, label, after in made])


if __name__ == "__main__":
    unittest.main()
