"""States, one step, and what is behind a call (points 7 and 8)."""

import copy
import itertools
import unittest

from samples import BACKWARDS, DEEP, EVERY, FACTORIAL, SAMPLES, alone, made_program
from withinall.programs import is_program, names_of, numbers_of
from withinall.runs import beginning, behind, one_step, trace

STATE = {"a": (1, -2, 3), "b": (), "p": 2, "q": -1, "u": 0, "x": 4, "y": -3, "z": 2}


class TestBeginning(unittest.TestCase):
    def test_of_nothing_given(self):
        self.assertEqual(beginning(EVERY, "main"), {"a": (), "b": (), "p": 0, "q": 0, "x": 0, "y": 0, "z": 0})
        self.assertEqual(beginning(EVERY, "rows"), {"f": 0, "n": 0, "r": ()})
        self.assertEqual(beginning(EVERY, "rows", ()), {"f": 0, "n": 0, "r": ()})
        self.assertEqual(beginning((1, (("main", (), (), (), ((0, ("go", 0)),)),)), "main"), {})

    def test_of_all_and_of_fewer_given(self):
        given = ((1, -9), -3, 7)
        whole = {"r": (1, -9), "f": -3, "n": 7}
        none = {"r": (), "f": 0, "n": 0}
        for many in range(4):
            kept = dict(list(whole.items())[:many])
            self.assertEqual(beginning(EVERY, "rows", given[:many]), {**none, **kept})
        self.assertEqual(beginning(program=EVERY, name="rows", given=given), whole)
        self.assertEqual(beginning(FACTORIAL, "fac", (31,)), {"k": 0, "m": 0, "n": 31})

    def test_has_all_names_of_the_def(self):
        for seed in range(100):
            program = made_program(seed)
            for definition in program[1]:
                state = beginning(program, definition[0])
                self.assertEqual(sorted(state), names_of(definition))
                for name, worth in state.items():
                    self.assertEqual(repr(worth), "0" if name in numbers_of(definition) else "()")

    def test_is_the_askers_own(self):
        given = [(1, 2), 3]
        state = beginning(EVERY, "rows", given)
        state["n"] = 5
        state.pop("r")
        self.assertEqual(given, [(1, 2), 3])
        self.assertEqual(beginning(EVERY, "rows", given), {"r": (1, 2), "f": 3, "n": 0})


class StepCase(unittest.TestCase):
    def step(self, act, state=None, width=5, **word):
        """What one step of the act tells, which stands at main's 0; the next label is 1."""
        program = alone(act, width=width)
        self.assertTrue(is_program(program), act)
        state = dict(STATE) if state is None else state
        kept = copy.deepcopy(state)
        told = one_step(program, ("main", 0), state, **word)
        self.assertEqual(state, kept)
        self.assertIsInstance(told, tuple)
        for part in told:
            self.assertIsNot(part, state)
        return told

    def makes(self, act, *, label=1, word=None, width=5, **changes):
        """The step goes on at the label, with these changes and no other ones."""
        told = self.step(act, width=width, **({} if word is None else {"word": word}))
        self.assertEqual(told, ("on", label, {**STATE, **changes}))
        for name in STATE:
            self.assertIs(type(told[2][name]), type(STATE[name]))

    def faults(self, act, why, width=5, **others):
        self.assertEqual(self.step(act, {**STATE, **others}, width), ("fault", why))
        self.assertEqual(self.step(act, {**STATE, **others}, width, word=3), ("fault", why))


class TestSums(StepCase):
    def test_set_and_add(self):
        self.makes(("set", "x", -5), x=-5)
        self.makes(("set", "p", 5), p=5)
        self.makes(("add", "x", "z", 3), x=5)
        self.makes(("add", "x", "x", 1), x=5)
        self.makes(("add", "x", "y", -2), x=-5)
        self.makes(("add", "p", "q", -4), p=-5)
        self.makes(("add", "x", "p", 0), x=2)

    def test_great(self):
        self.faults(("add", "x", "x", 2), "great")
        self.faults(("add", "x", "y", -3), "great")
        self.faults(("add", "p", "p", 4), "great")
        self.faults(("plus", "x", "x", "z"), "great")
        self.faults(("minus", "u", "y", "x"), "great")
        self.faults(("times", "u", "y", "z"), "great")
        self.faults(("times", "u", "x", "z"), "great")
        for kind, one, other in (("plus", 31, 1), ("plus", -31, -1), ("minus", 31, -1), ("minus", -31, 1),
                                 ("times", 16, 2), ("times", -31, 31)):
            self.faults((kind, "u", "x", "y"), "great", 31, x=one, y=other)

    def test_all_pairs_of_words(self):
        width = 4
        words = range(-width, width + 1)
        sums = {"plus": lambda y, z: y + z, "minus": lambda y, z: y - z, "times": lambda y, z: y * z,
                "over": lambda y, z: y // z, "rest": lambda y, z: y % z}
        for y, z in itertools.product(words, words):
            state = {**STATE, "y": y, "z": z, "x": 1}
            for kind, total in sums.items():
                told = self.step((kind, "x", "y", "z"), state, width)
                if kind in ("over", "rest") and z == 0:
                    self.assertEqual(told, ("fault", "nought"))
                elif abs(total(y, z)) > width:
                    self.assertEqual(told, ("fault", "great"))
                else:
                    self.assertEqual(told, ("on", 1, {**state, "x": total(y, z)}))
            told = self.step(("mid", "x", "y", "z"), state, width)
            self.assertEqual(told, ("on", 1, {**state, "x": (y + z) // 2}))

    def test_over_and_rest_as_pythons(self):
        for y, z, over, rest in ((5, 2, 2, 1), (-5, 2, -3, 1), (5, -2, -3, -1), (-5, -2, 2, -1), (0, -3, 0, 0)):
            for kind, worth in (("over", over), ("rest", rest)):
                state = {**STATE, "y": y, "z": z}
                self.assertEqual(self.step((kind, "x", "y", "z"), state), ("on", 1, {**state, "x": worth}))

    def test_nought(self):
        self.faults(("over", "x", "y", "u"), "nought")
        self.faults(("rest", "x", "y", "u"), "nought")
        self.faults(("over", "u", "u", "u"), "nought")
        self.faults(("rest", "u", "u", "u"), "nought")

    def test_mid(self):
        self.makes(("mid", "x", "y", "z"), x=-1)
        self.makes(("mid", "p", "p", "q"), p=0)
        self.makes(("mid", "x", "p", "x"), x=3)

    def test_one_name_standing_twice(self):
        self.makes(("plus", "z", "z", "z"), z=4)
        self.makes(("minus", "x", "x", "x"), x=0)
        self.makes(("times", "z", "z", "z"), z=4)
        self.makes(("over", "y", "y", "y"), y=1)
        self.makes(("rest", "y", "y", "y"), y=0)
        self.makes(("mid", "y", "y", "y"))
        self.makes(("minus", "u", "x", "x"), u=0)


class TestRows(StepCase):
    def test_row(self):
        self.makes(("row", "a", "x"), a=(0, 0, 0, 0))
        self.makes(("row", "b", "p"), b=(0, 0))
        self.makes(("row", "a", "u"), a=())
        self.faults(("row", "a", "y"), "size")
        self.faults(("row", "b", "q"), "size")
        self.assertEqual(self.step(("row", "a", "x"), {**STATE, "x": 31}, 31)[2]["a"], (0,) * 31)

    def test_get(self):
        self.makes(("get", "x", "a", "u"), x=1)
        self.makes(("get", "x", "a", "p"), x=3)
        self.makes(("get", "z", "a", "z"), z=3)
        self.faults(("get", "x", "a", "x"), "place")
        self.faults(("get", "x", "a", "q"), "place")
        self.faults(("get", "x", "b", "u"), "place")
        for at, cell in enumerate(STATE["a"]):
            self.assertEqual(self.step(("get", "x", "a", "u"), {**STATE, "u": at})[2]["x"], cell)
        self.faults(("get", "x", "a", "u"), "place", u=3)
        self.faults(("get", "x", "a", "u"), "place", u=-1)

    def test_put(self):
        self.makes(("put", "a", "u", "y"), a=(-3, -2, 3))
        self.makes(("put", "a", "p", "q"), a=(1, -2, -1))
        self.makes(("put", "a", "p", "p"), a=(1, -2, 2))
        self.faults(("put", "a", "x", "u"), "place")
        self.faults(("put", "a", "q", "u"), "place")
        self.faults(("put", "b", "u", "u"), "place")
        self.faults(("put", "a", "u", "u"), "place", u=3)
        self.assertEqual(self.step(("put", "a", "u", "y"), {**STATE, "u": 1})[2]["a"], (1, -3, 3))

    def test_length(self):
        self.makes(("length", "x", "a"), x=3)
        self.makes(("length", "p", "b"), p=0)


class TestOthers(StepCase):
    def test_ask(self):
        self.makes(("ask", "x", -2, 2), x=0)
        self.makes(("ask", "x", -2, 2), word=2, x=2)
        self.makes(("ask", "x", -2, 2), word=3, x=-2)
        self.makes(("ask", "x", -2, 2), word=-5, x=0)
        self.makes(("ask", "x", 3, 5), x=3)
        self.makes(("ask", "x", 4, 5), x=4)
        self.makes(("ask", "x", 2, 5), x=4)
        self.makes(("ask", "x", 4, 4), word=-1, x=4)
        for least, greatest in itertools.combinations_with_replacement(range(-5, 6), 2):
            for word in range(-5, 6):
                x = least + (word - least) % (greatest - least + 1)
                self.makes(("ask", "x", least, greatest), word=word, x=x)
                self.assertIn(x, range(least, greatest + 1))

    def test_the_word_is_nothing_to_other_acts(self):
        for act in (("set", "x", 1), ("tell", "x"), ("check", 0, "<", 1), ("go", 1), ("row", "a", "x"),
                    ("times", "z", "z", "z"), ("if", "x", "<", 0, 0), ("call", "x", "main", ()), ("length", "x", "a")):
            for word in (-5, 0, 5):
                self.assertEqual(self.step(act, word=word), self.step(act))

    def test_tell(self):
        self.makes(("tell", "x"))
        self.makes(("tell", "p"))

    def test_tests_of_sides(self):
        for one, other in itertools.product((-3, 0, 2, 4), repeat=2):
            state = {**STATE, "x": one, "p": other}
            for left, right in (("x", "p"), ("x", other), (one, "p"), (one, other)):
                for sign, so in (("<", one < other), ("<=", one <= other)):
                    on = self.step(("if", left, sign, right, 0), state)
                    self.assertEqual(on, ("on", 0 if so else 1, state))
                    checked = self.step(("check", left, sign, right), state)
                    self.assertEqual(checked, ("on", 1, state) if so else ("fault", "check"))

    def test_a_name_against_itself(self):
        self.makes(("if", "x", "<", "x", 0))
        self.makes(("if", "x", "<=", "x", 0), label=0)
        self.faults(("check", "x", "<", "x"), "check")
        self.makes(("check", "x", "<=", "x"))

    def test_go(self):
        self.makes(("go", 0), label=0)
        self.makes(("go", 1))

    def test_next_labels_and_labels_gone_to(self):
        state = beginning(EVERY, "main")
        self.assertEqual(one_step(EVERY, ("main", 26), state), ("on", 27, state))
        self.assertEqual(one_step(EVERY, ("main", 27), state), ("on", 9999, state))
        self.assertEqual(one_step(EVERY, ("main", 27), {**state, "p": -9}), ("on", 100, {**state, "p": -9}))
        self.assertEqual(one_step(EVERY, ("main", 200), state), ("on", 0, state))

    def test_back(self):
        state = beginning(EVERY, "main")
        self.assertEqual(one_step(EVERY, ("main", 9999), {**state, "p": -4}), ("back", -4))
        self.assertEqual(one_step(program=EVERY, place=("rows", 7), state={"f": 1, "n": 2, "r": ()}, word=5),
                         ("back", 2))

    def test_word_by_name_alone(self):
        with self.assertRaises(TypeError):
            one_step(EVERY, ("main", 24), beginning(EVERY, "main"), 3)


class TestCalls(StepCase):
    def test_call(self):
        state = {**beginning(EVERY, "main"), "a": (4, 5), "q": -2, "x": 9, "y": 3}
        told = one_step(EVERY, ("main", 100), state)
        self.assertEqual(told, ("call", "rows", {"r": (4, 5), "f": -2, "n": 9}))
        self.assertEqual(one_step(EVERY, ("main", 101), state), ("call", "main", beginning(EVERY, "main")))
        inner = {"r": (1,), "f": 6, "n": -1}
        self.assertEqual(one_step(EVERY, ("rows", 5), inner), ("call", "rows", {"r": (1,), "f": 6, "n": 6}))

    def test_the_other_names_begin_anew(self):
        state = {"k": 7, "m": 4, "n": 5}
        self.assertEqual(one_step(FACTORIAL, ("fac", 2), state), ("call", "fac", {"k": 0, "m": 0, "n": 4}))
        self.assertEqual(state, {"k": 7, "m": 4, "n": 5})

    def test_behind(self):
        state = {"k": 7, "m": 4, "n": 5}
        told = behind(FACTORIAL, ("fac", 2), state, 24)
        self.assertEqual(told, ("on", 3, {"k": 24, "m": 4, "n": 5}))
        self.assertEqual(state, {"k": 7, "m": 4, "n": 5})
        state = beginning(EVERY, "main")
        self.assertEqual(behind(EVERY, ("main", 101), state, -9), ("on", 200, {**state, "x": -9}))
        self.assertEqual(behind(program=EVERY, place=("rows", 5), state={"r": (1,), "f": 6, "n": -1}, word=0),
                         ("on", 7, {"r": (1,), "f": 6, "n": 0}))

    def test_behind_keeps_what_was_given_too(self):
        told = behind(DEEP, ("down", 2), {"n": 3, "x": 0}, 3)
        self.assertEqual(told, ("on", 3, {"n": 3, "x": 3}))


class TestTheAskersOwn(unittest.TestCase):
    def test_each_step_on_the_ways_of_runs(self):
        for program in (*SAMPLES, *(made_program(seed) for seed in range(60))):
            for place, state in trace(program, (3, 1, -2, 5, 0, 4), steps=60):
                kept = copy.deepcopy(state)
                first = one_step(program, place, state, word=1)
                again = copy.deepcopy(first)
                self.assertEqual(state, kept)
                if isinstance(first[-1], dict):
                    first[-1].clear()
                    first[-1]["other"] = 1
                self.assertEqual(state, kept)
                self.assertEqual(one_step(program, place, state, word=1), again)

    def test_behind_is_new(self):
        state = beginning(FACTORIAL, "fac", (3,))
        told = behind(FACTORIAL, ("fac", 2), state, 1)
        told[2].clear()
        self.assertEqual(state, beginning(FACTORIAL, "fac", (3,)))
        state["n"] = 9
        self.assertEqual(told, ("on", 3, {}))

    def test_rows_are_tuples_of_words(self):
        for place, state in trace(BACKWARDS, (3, 1, 2, 3)):
            self.assertIsInstance(state["a"], tuple)


if __name__ == "__main__":
    unittest.main()
