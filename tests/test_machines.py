"""Machines without some looks, whose rows lie in one memory (point 18)."""

import copy
import random
import unittest

from cases import OwnCase
from memory import lean
from samples import BACKWARDS, DEEP, EVERY, FACTORIAL, PLAIN_THREE, SAMPLES, alone, great_program, made_program, small_program
from test_least import COUNT, HALVES, RING, main_alone
from test_papers import TWO, table_that_holds
from withinall.least import least
from withinall.looks import looks, safe
from withinall.machines import compiled, run_rows
from withinall.programs import is_program
from withinall.runs import run, trace


class MachineCase(OwnCase):
    def lean(self, program, left_out=(), words=(), **steps):
        """What the machine tells, which is what the promise has."""
        self.assertTrue(is_program(program), program)
        kept = copy.deepcopy((program, left_out, words))
        rows = compiled(program, left_out=left_out)
        self.assertIsInstance(rows, list)
        rows_kept = copy.deepcopy(rows)
        told = run_rows(rows, words, **steps)
        self.assertEqual(rows, rows_kept)
        self.assertEqual((program, left_out, words), kept)
        self.assertEqual(told, lean(program, left_out, words, **steps), (program, left_out, words))
        self.assertEqual([type(part) for part in told], [tuple, tuple, int, int])
        return told

    def told(self, program, *labels, words=(), **steps):
        """What the machine of a main without the looks at these labels tells, but for how many steps and looks."""
        return self.lean(program, [("main", label) for label in labels], words, **steps)[:2]


def sums(kind, y, z, width=5):
    """A main that tells a sum of two words."""
    return main_alone((0, ("set", "y", y)), (1, ("set", "z", z)), (2, (kind, "x", "y", "z")), (3, ("tell", "x")),
                      (4, ("back", "x")), width=width)


class TestWithAllLooks(MachineCase):
    def compare(self, program, words, **steps):
        """With no look left out: what the run tells, and how many places of looks its trace has."""
        all_looks = dict(looks(program))
        told = self.lean(program, (), words, **steps)
        self.assertEqual(told[:3], run(program, words, **steps))
        self.assertEqual(told[3], sum(place in all_looks for place, _ in trace(program, words, **steps)))
        return told

    def test_samples(self):
        self.assertEqual(self.compare(BACKWARDS, (3, 4, 5, 6)), ((6, 5, 4), ("back", 3), 35, 13))
        self.assertEqual(self.compare(FACTORIAL, (4,))[:2], ((24,), ("back", 24)))
        for program in (*SAMPLES, COUNT, HALVES, RING, TWO):
            for word in range(-3, 4):
                self.compare(program, [word, 2, 1, -1, word])

    def test_steps(self):
        """0 steps, just enough and one too few."""
        many = run(BACKWARDS, (3, 4, 5, 6))[2]
        for steps in (0, 1, 2, many - 1, many, many + 1):
            told = self.compare(BACKWARDS, (3, 4, 5, 6), steps=steps)
            self.assertEqual(told[1][0], "back" if steps >= many else "fault")
            self.assertEqual(told[2], min(steps, many))
        self.assertEqual(self.compare(BACKWARDS, (), steps=0), ((), ("fault", "steps", ("main", 0)), 0, 0))
        forever = main_alone((4, ("go", 4)))
        self.assertEqual(run_rows(compiled(forever)), ((), ("fault", "steps", ("main", 4)), 200, 0))
        self.assertEqual(self.compare(forever, (), steps=1000)[2], 1000)

    def test_calls_as_deep_as_they_may_be(self):
        for word in (1, 19, 20, 21, 31):
            told = self.compare(DEEP, (word,), steps=500)
            self.assertEqual(told[1][0], "back" if word <= 20 else "fault")
        self.assertEqual(self.compare(DEEP, (21,), steps=500)[1], ("fault", "deep", ("down", 2)))

    def test_drawn_programs(self):
        ends = set()
        for seed in range(300):
            chance = random.Random(seed)
            program = (small_program, made_program, great_program)[seed % 3](seed)
            for _ in range(4):
                words = [chance.randint(-program[0], program[0]) for _ in range(chance.randint(0, 20))]
                ends.add(self.compare(program, words, steps=chance.choice((0, 7, 60, 300)))[1][:-1])
        whys = ("great", "nought", "size", "place", "check", "steps", "deep")
        self.assertLessEqual({("fault", why) for why in whys}, ends)

    def test_the_failed_look_counts(self):
        program = main_alone((0, ("over", "x", "x", "x")), (1, ("back", "x")))
        self.assertEqual(self.compare(program, ()), ((), ("fault", "nought", ("main", 0)), 1, 1))


class TestSumsLeftOut(MachineCase):
    def test_brought_between(self):
        """By adding or taking 2 w + 1, so often as it takes."""
        for kind, y, z, worth in (("plus", 5, 1, -5), ("plus", 5, 5, -1), ("plus", -5, -1, 5), ("minus", -5, 5, 1),
                                  ("minus", 5, -5, -1), ("times", 5, 5, 3), ("times", 5, -5, -3), ("times", -4, -4, 5),
                                  ("times", 2, 3, -5), ("times", 2, -3, 5), ("plus", 2, 3, 5), ("times", -5, 1, -5)):
            program = sums(kind, y, z)
            self.assertEqual(self.told(program, 2), ((worth,), ("back", worth)), (kind, y, z))
        for y in range(-5, 6):
            for kind in PLAIN_THREE:
                for z in range(-5, 6):
                    self.lean(sums(kind, y, z), [("main", 2)])

    def test_add(self):
        for y, k, worth in ((5, 1, -5), (5, 5, -1), (-5, -5, 1), (3, 3, -5)):
            program = main_alone((0, ("set", "y", y)), (2, ("add", "x", "y", k)), (4, ("back", "x")), width=5)
            self.assertEqual(self.told(program, 2), ((), ("back", worth)))
            self.assertEqual(self.told(program), ((), ("fault", "great", ("main", 2))))

    def test_great_and_small_widths(self):
        self.assertEqual(self.told(sums("times", 31, 31, 31), 2)[1], ("back", 16))
        self.assertEqual(self.told(sums("times", -31, 31, 31), 2)[1], ("back", -16))
        self.assertEqual(self.told(sums("times", 30, 31, 31), 2)[1], ("back", -15))
        self.assertEqual(self.told(sums("plus", 1, 1, 1), 2)[1], ("back", -1))
        self.assertEqual(self.told(sums("minus", -1, 1, 1), 2)[1], ("back", 1))

    def test_by_nought(self):
        for kind in ("over", "rest"):
            for y in (-5, -1, 0, 3, 5):
                self.assertEqual(self.told(sums(kind, y, 0), 2), ((0,), ("back", 0)))
                self.assertEqual(self.told(sums(kind, y, 0)), ((), ("fault", "nought", ("main", 2))))
        program = main_alone((0, ("set", "x", 4)), (1, ("over", "x", "x", "y")), (2, ("back", "x")))
        self.assertEqual(self.told(program, 1), ((), ("back", 0)))

    def test_a_check_goes_on(self):
        program = main_alone((0, ("check", "x", "<", 0)), (1, ("check", 2, "<=", 1)), (2, ("back", "x")))
        self.assertEqual(self.lean(program, (("main", 0), ("main", 1))), ((), ("back", 0), 3, 0))
        self.assertEqual(self.lean(program, (("main", 0),)), ((), ("fault", "check", ("main", 1)), 2, 1))
        self.assertEqual(self.lean(program, (("main", 1),)), ((), ("fault", "check", ("main", 0)), 1, 1))


class TestMemory(MachineCase):
    """Of rows, cells and the top: what is read shows where they lie."""

    def main(self, *acts, rows=("a", "b"), width=9):
        """A main with these acts, labelled from 0 on."""
        return main_alone(*enumerate((*acts, ("back", "x"))), rows=rows, width=width)

    def read(self, *acts, rows=("a", "b"), defs=()):
        """What a main with these acts, and other defs beside it, tells without any look."""
        width, mains = self.main(*acts, rows=rows)
        program = (width, (*mains, *defs))
        all_looks = [place for place, _ in looks(program)]
        told = self.lean(program, all_looks)
        self.assertEqual(told[3], 0)
        self.assertEqual(told[1][0], "back")
        return told[0]

    def cells(self, acts, row, *at, defs=()):
        """The cells of the row behind these acts, each read by a main of its own."""
        return tuple(self.read(*acts, *self.got(row, each), defs=defs)[-1] for each in at)

    # Noughts of so many cells, and a word put into one of them.
    def made(self, row, many):
        return [("set", "n", many), ("row", row, "n")]

    def put(self, row, at, word):
        return [("set", "i", at), ("set", "y", word), ("put", row, "i", "y")]

    def got(self, row, *at):
        acts = []
        for each in at:
            acts += [("set", "i", each), ("get", "x", row, "i"), ("tell", "x")]
        return acts

    def test_rows_lie_one_behind_the_other(self):
        acts = [*self.made("a", 2), *self.made("b", 3), *self.put("b", 0, 5), *self.put("b", 2, 6), *self.put("a", 1, 7)]
        self.assertEqual(self.cells(acts, "a", 0, 1, 2, 3, 4, 5), (0, 7, 5, 0, 6, 0))
        self.assertEqual(self.cells(acts, "b", -2, -1, 0, 1, 2, 3), (0, 7, 5, 0, 6, 0))
        program = self.main(*acts, *self.got("a", 2))
        label = next(label for label, act in program[1][0][4] if act[0] == "get")
        self.assertEqual(self.told(program), ((), ("fault", "place", ("main", label))))
        self.assertEqual(self.told(program, label), ((5,), ("back", 5)))

    def test_cells_below_all(self):
        """Cells are by whole numbers, those below 0 too, all 0 at first."""
        self.assertEqual(self.read(*self.got("a", -9, -1, 0, 9)), (0, 0, 0, 0))
        self.assertEqual(self.read(*self.put("a", -3, 4), *self.put("a", 5, 6), *self.got("b", -3, 5, -4)), (4, 6, 0))
        self.assertEqual(self.read(*self.made("a", 1), *self.put("a", -9, 4), *self.got("b", -9)), (4,))

    def test_noughts_are_laid(self):
        """A row that is made anew lies at the top; what stood in its cells becomes 0, what stands elsewhere stays."""
        acts = [*self.put("a", 1, 4), *self.put("a", 3, 5), *self.made("a", 2)]
        self.assertEqual(self.read(*acts, *self.got("a", 0, 1, 2, 3)), (0, 0, 0, 5))
        acts += [*self.put("a", 0, 6), *self.made("a", 1)]
        self.assertEqual(self.read(*acts, *self.got("a", 0, 1, -1, -2)), (0, 5, 0, 6))

    def test_no_cells(self):
        """Of a size of 0 or below the row has no cells and lies at the top."""
        for many in (0, -1, -9):
            acts = [*self.made("b", 3), *self.put("b", 2, 4), *self.made("a", many)]
            self.assertEqual(self.read(*acts, *self.got("a", -1), ("length", "x", "a"), ("tell", "x")), (4, 0))
            # The top stays: what is made behind it lies there, too.
            self.assertEqual(self.read(*acts, *self.made("b", 1), *self.put("b", 0, 7), *self.got("a", 0)), (7,))
        program = self.main(*self.made("a", -1))
        self.assertEqual(self.told(program), ((), ("fault", "size", ("main", 1))))
        self.assertEqual(self.told(program, 1), ((), ("back", 0)))

    def test_a_row_that_was_never_made(self):
        """It lies at 0, of no cells."""
        acts = [*self.made("b", 2), *self.put("b", 0, 3), *self.put("b", 1, 4)]
        self.assertEqual(self.read(*acts, *self.got("a", 0, 1, 2), ("length", "x", "a"), ("tell", "x")), (3, 4, 0, 0))
        self.assertEqual(self.read(*acts, *self.put("a", 1, 8), *self.got("b", 1)), (8,))

    def callee(self, *acts, params=("a", "b"), rows=("a", "b")):
        """A def that is given rows."""
        return ("f", params, (), rows, tuple(enumerate((*acts, ("back", "x")))))

    def test_rows_given_are_laid(self):
        """One behind the other by the params, with the words that stand in their cells then."""
        acts = [*self.made("a", 2), *self.put("a", 0, 3), *self.put("a", 1, 4), *self.made("b", 1), *self.put("b", 0, 5),
                ("call", "x", "f", ("b", "a"))]
        for params, given in ((("a", "b"), (5, 3, 4)), (("b", "a"), (5, 3, 4))):
            first, other = params
            callee = self.callee(*self.got(first, 0, 1, 2), *self.got(other, -1, 0, 1), ("length", "x", first), ("tell", "x"),
                                 ("length", "x", other), ("tell", "x"), params=params)
            self.assertEqual(self.read(*acts, defs=[callee]), (*given, *given, 1, 2))
        # The cells ahead of these are the caller's, and stay where no place beyond a row is put into.
        callee = self.callee(*self.got("a", -3, -2, -1), *self.put("a", 0, 8), *self.put("b", -1, 9), *self.put("b", -2, 7))
        self.assertEqual(self.read(*acts, *self.got("a", 0, 1), *self.got("b", 0, 1, 2), defs=[callee]), (3, 4, 5, 3, 4, 7, 9, 3))
        callee = self.callee(*self.put("a", -3, 8), *self.put("a", -1, 9))
        self.assertEqual(self.read(*acts, *self.got("a", 0, 1), *self.got("b", 0), defs=[callee]), (8, 4, 9))

    def test_words_that_stand_there_then(self):
        """A cell that another row's place beyond it was put into is given as it is."""
        acts = [*self.made("a", 1), *self.made("b", 1), *self.put("a", 1, 6), ("call", "x", "f", ("b",))]
        self.assertEqual(self.read(*acts, defs=[self.callee(*self.got("a", 0), params=("a",))]), (6,))

    def test_the_same_row_twice(self):
        acts = [*self.made("a", 2), *self.put("a", 0, 3), *self.put("a", 1, 4), ("call", "x", "f", ("a", "a"))]
        callee = self.callee(*self.put("a", 0, 9), *self.got("b", -2, -1, 0, 1))
        self.assertEqual(self.read(*acts, *self.got("a", 0, 1), defs=[callee]), (9, 4, 3, 4, 3, 4))

    def test_given_though_never_made(self):
        """It is laid likewise: of no cells, at the top; a row of the callee that isn't given lies at 0."""
        acts = [*self.made("b", 1), *self.put("b", 0, 3), *self.put("b", 1, 4), ("call", "x", "f", ("a", "b"))]
        callee = self.callee(*self.got("a", -1, 0, 1), *self.got("b", 0), ("length", "x", "a"), ("tell", "x"))
        self.assertEqual(self.read(*acts, defs=[callee]), (3, 3, 0, 3, 0))
        acts = [*self.made("b", 1), *self.put("b", 0, 3), ("call", "x", "f", ("b",))]
        callee = self.callee(*self.put("a", 0, 5), *self.got("b", 0, 1), params=("a",))
        self.assertEqual(self.read(*acts, defs=[callee]), (3, 5))

    def test_the_top_behind_a_call(self):
        """It is what it was ahead of the call: what is made next lies where the callee's rows lay."""
        acts = [*self.made("b", 2), ("call", "x", "f", ("b", "b")), *self.made("a", 1), *self.put("a", 0, 7)]
        callee = self.callee(*self.made("a", 3), *self.put("a", 0, 5), *self.put("a", 2, 6), *self.put("b", 0, 4))
        # Beyond the row stands what the callee left there: a copy's cell 1, that of b, 4, 0, and its own row's 5, 0, 6.
        self.assertEqual(self.cells(acts, "b", 2, 3, 4, 5, 6, 7, 8, 9, defs=[callee]), (7, 0, 4, 0, 5, 0, 6, 0))

    def test_calls_within_calls(self):
        """Each call lays its rows above those of the calls that are open."""
        callee = ("f", ("a", "n"), (), ("a",), (
            (0, ("if", "n", "<=", 0, 9)), (1, ("set", "i", 0)), (2, ("put", "a", "i", "n")), (3, ("add", "n", "n", -1)),
            (4, ("call", "x", "f", ("a", "n"))), (5, ("get", "x", "a", "i")), (6, ("tell", "x")),
            (9, ("length", "i", "a")), (10, ("get", "x", "a", "i")), (11, ("tell", "x")), (12, ("back", "x"))))
        acts = [*self.made("a", 1), ("set", "n", 3), ("call", "x", "f", ("a", "n")), *self.got("a", 0, 1, 2, 3, 4)]
        self.assertEqual(self.read(*acts, defs=[callee]), (0, 1, 1, 2, 1, 3, 2, 0, 3, 2, 1, 1))

    def test_a_fault_within_a_call(self):
        program = (9, (*self.main(*self.made("a", 2), ("call", "x", "f", ("a",)))[1],
                       self.callee(*self.got("a", 1), *self.got("a", 2), params=("a",))))
        self.assertEqual(self.lean(program)[:2], ((0,), ("fault", "place", ("f", 4))))
        self.assertEqual(self.lean(program, [("f", 1)])[:2], ((0,), ("fault", "place", ("f", 4))))
        self.assertEqual(self.lean(program, [("f", 4)])[:2], ((0, 0), ("back", 0)))


class TestLeftOut(MachineCase):
    def test_all_or_some_looks(self):
        """Whatever looks are left out, it tells what the promise has; none counts that is left out."""
        for seed in range(400):
            chance = random.Random(seed)
            program = (small_program, made_program, great_program)[seed % 3](seed)
            places = [place for place, _ in looks(program)]
            for _ in range(3):
                some = tuple(chance.sample(places, chance.randint(0, len(places))))
                words = [chance.randint(-program[0], program[0]) for _ in range(chance.randint(0, 20))]
                self.lean(program, some, words, steps=chance.choice((9, 100, 400)))
                self.assertEqual(self.lean(program, places, words)[3], 0)

    def test_safe_looks(self):
        """Any safe looks left out: what the run tells, with just so many looks fewer as it met of these."""
        fewer = 0
        for seed in range(240):
            chance = random.Random(seed)
            program = (small_program, made_program, great_program)[seed % 3](seed)
            table = least(program)
            if seed % 6 == 0:
                table = table_that_holds(program, chance)
            places = safe(program, table)
            some = chance.sample(places, chance.randint(0, len(places)))
            for left_out in (places, some):
                words = [chance.randint(-program[0], program[0]) for _ in range(20)]
                steps = chance.choice((20, 200, 1000))
                told = self.lean(program, left_out, words, steps=steps)
                self.assertEqual(told[:3], run(program, words, steps=steps))
                met = sum(place in left_out for place, _ in trace(program, words, steps=steps))
                self.assertEqual(told[3], run_rows(compiled(program), words, steps=steps)[3] - met)
                fewer += met
        self.assertGreater(fewer, 2000)

    def test_tuples_and_lists(self):
        places = safe(BACKWARDS, least(BACKWARDS))
        one = run_rows(compiled(program=BACKWARDS, left_out=tuple(places)), (5, 1, 2, 3, 4, 5))
        self.assertEqual(run_rows(compiled(BACKWARDS, left_out=places), words=[5, 1, 2, 3, 4, 5], steps=200), one)
        self.assertEqual(one[:3], run(BACKWARDS, (5, 1, 2, 3, 4, 5)))

    def test_changed_behind_the_call(self):
        places = [("main", 2)]
        rows = compiled(sums("plus", 5, 5), left_out=places)
        places.clear()
        self.assertEqual(run_rows(rows)[0], (-1,))
        places = []
        rows = compiled(sums("plus", 5, 5), left_out=places)
        places.append(("main", 2))
        self.assertEqual(run_rows(rows)[1][0], "fault")


class TestRows(MachineCase):
    def test_run_twice_by_turns_and_copied(self):
        for program in (BACKWARDS, EVERY, TWO, RING):
            every = [place for place, _ in looks(program)]
            one, other = compiled(program), compiled(program, left_out=every)
            self.assertOwn([one, other])
            told = [run_rows(one, (3, 2, 1)), run_rows(other, (3, 2, 1))]
            for _ in range(2):
                self.assertEqual([run_rows(one, (3, 2, 1)), run_rows(other, (3, 2, 1))], told)
            copies = [copy.deepcopy(one), list(one), one[:]]
            one.clear()
            for rows in copies:
                self.assertEqual(run_rows(rows, (3, 2, 1)), told[0])
            self.assertEqual(run_rows(other, (3, 2, 1)), told[1])
            self.assertEqual(run_rows(compiled(program), (3, 2, 1)), told[0])

    def test_words_stay(self):
        words = [3, 4, 5, 6]
        run_rows(compiled(BACKWARDS), words)
        self.assertEqual(words, [3, 4, 5, 6])

    def test_words_by_keywords(self):
        rows = compiled(alone(("ask", "x", -5, 5), ("tell", "x")))
        self.assertEqual(run_rows(rows=rows, words=(4,), steps=3), ((4,), ("back", 4), 3, 0))
        self.assertEqual(run_rows(rows), ((0,), ("back", 0), 3, 0))
        self.assertEqual(run_rows(rows, (7,)), ((-4,), ("back", -4), 3, 0))


if __name__ == "__main__":
    unittest.main()
