"""The least table (points 3 and 12)."""

import copy
import random
import unittest

import states
from cases import OwnCase
from samples import BACKWARDS, DEEP, EVERY, FACTORIAL, SAMPLES, alone, great_program, made_program, small_program
from withinall.boxes import box_of, hull, lies, tight, within
from withinall.leads import backs, goes_behind, leads
from withinall.least import least
from withinall.programs import act_at, def_at, first_place, is_program, places_of
from withinall.runs import beginning, behind, one_step, trace


def main_alone(*steps, width=9, fingers=(), rows=()):
    return (width, (("main", (), fingers, rows, steps),))


COUNT = main_alone((0, ("if", 5, "<=", "n", 3)), (1, ("add", "n", "n", 1)), (2, ("go", 0)), (3, ("back", "n")),
                   (4, ("tell", "n")), (5, ("go", 4)))

# A row is asked for cell by cell, then a word is sought in it by halves.
HALVES = (2, (
    ("main", (), ("p",), ("a",), (
        (0, ("ask", "x", 0, 2)),
        (1, ("row", "a", "x")),
        (2, ("length", "x", "a")),
        (3, ("if", "x", "<=", "p", 7)),
        (4, ("ask", "x", -2, 2)),
        (5, ("put", "a", "p", "x")),
        (6, ("go", 8)),
        (7, ("go", 10)),
        (8, ("add", "p", "p", 1)),
        (9, ("go", 2)),
        (10, ("call", "x", "seek", ("a", "x"))),
        (11, ("back", "x")),
    )),
    ("seek", ("a", "x"), ("p", "q"), ("a",), (
        (0, ("length", "q", "a")),
        (1, ("if", "q", "<=", "p", 8)),
        (2, ("mid", "p", "p", "q")),
        (3, ("get", "x", "a", "p")),
        (4, ("if", "x", "<=", 0, 8)),
        (5, ("put", "a", "p", "q")),
        (6, ("add", "q", "q", -1)),
        (7, ("go", 1)),
        (8, ("back", "p")),
    )),
))

# Two defs that call each other and themselves, and main again; one that nobody calls; one that never goes back.
RING = (2, (
    ("f", ("x", "p"), ("p",), (), (
        (0, ("if", "x", "<=", 0, 4)),
        (1, ("add", "x", "x", -1)),
        (2, ("call", "x", "g", ("x",))),
        (3, ("back", "p")),
        (4, ("back", "x")),
    )),
    ("g", ("x",), ("q",), (), (
        (0, ("set", "q", 1)),
        (1, ("call", "y", "f", ("x", "q"))),
        (2, ("plus", "x", "x", "y")),
        (3, ("call", "y", "f", ("y", "q"))),
        (4, ("back", "x")),
    )),
    ("main", (), (), (), (
        (0, ("ask", "x", -1, 2)),
        (1, ("if", "x", "<=", 0, 4)),
        (2, ("call", "x", "g", ("x",))),
        (3, ("call", "y", "main", ())),
        (4, ("tell", "y")),
        (5, ("if", "x", "<=", 1, 7)),
        (6, ("call", "y", "ever", ())),
        (7, ("back", "x")),
    )),
    ("none", (), (), (), ((0, ("tell", "x")), (1, ("back", "x")))),
    ("ever", (), (), (), ((0, ("add", "x", "x", 0)), (1, ("go", 0)), (2, ("back", "x")))),
))


class LeastCase(OwnCase):
    def all_led(self, program, table):
        """The place and the box of all that is led to by the boxes of the table, main's beginning first."""
        found = [(first_place(program, "main"), box_of(program, "main", beginning(program, "main")))]
        for place, box in table.items():
            if box is not None:
                found += leads(program, place, box)
                act = act_at(program, place)
                ends = [other for other in table if act[0] == "call" and other[0] == act[2]]
                for other in ends:
                    if act_at(program, other)[0] == "back" and table[other] is not None:
                        found += goes_behind(program, place, box, backs(program, other, table[other]))
        return found

    def check_holds(self, program, table):
        """Nothing is led out, and each box is just what is led to its place."""
        found = {}
        for place, box in self.all_led(program, table):
            self.assertTrue(within(box, table[place]), place)
            found[place] = hull(found.get(place), box)
        self.assertEqual(table, {place: found.get(place) for place in places_of(program)})

    def check(self, program):
        """The table told of the program, looked at in all ways that are quick."""
        kept = copy.deepcopy(program)
        table = least(program)
        self.assertEqual(program, kept)
        self.assertEqual(list(table), places_of(program))
        self.assertOwn(table)
        for box in table.values():
            self.assertEqual(tight(box, width=program[0]) if box else None, box)
        self.check_holds(program, table)
        return table

    def check_traces(self, program, table, chance, many):
        """Each state of each run of drawn words lies in the table."""
        width = program[0]
        for _ in range(many):
            words = [chance.randint(-width, width) for _ in range(chance.randint(0, 40))]
            for place, state in trace(program, words, steps=300):
                self.assertTrue(lies(table[place], state), (place, state))


class TestByHand(LeastCase):
    def numbers(self, program):
        """The table, of each box its numbers alone."""
        return {place: box and box[0] for place, box in self.check(program).items()}

    def test_loop(self):
        self.assertEqual(self.check(COUNT), {
            ("main", 0): ({"n": (0, 5)}, {}, {}),
            ("main", 1): ({"n": (0, 4)}, {}, {}),
            ("main", 2): ({"n": (1, 5)}, {}, {}),
            ("main", 3): ({"n": (5, 5)}, {}, {}),
            ("main", 4): None,
            ("main", 5): None,
        })

    def test_back_at_once(self):
        self.assertEqual(self.check(main_alone((7, ("back", "x")))), {("main", 7): ({"x": (0, 0)}, {}, {})})
        self.assertEqual(self.check(main_alone((7, ("back", "x")), fingers=("p",), rows=("a", "b"))), {
            ("main", 7): ({"x": (0, 0), "p": (0, 0)}, {"a": (0, 0, None), "b": (0, 0, None)},
                          {("p", "a"): 0, ("p", "b"): 0})})
        self.assertEqual(self.check(main_alone((3, ("go", 3)))), {("main", 3): ({}, {}, {})})

    def test_no_state_passes(self):
        table = self.check(main_alone((0, ("check", "x", "<", 0)), (1, ("back", "x"))))
        self.assertEqual(table, {("main", 0): ({"x": (0, 0)}, {}, {}), ("main", 1): None})

    def test_no_bound_is_leapt_over(self):
        """Bounds that rise by one from turn to turn stop where the test stops them."""
        for top in (1, 17, 30, 31):
            steps = ((0, ("if", top, "<=", "n", 3)), (1, ("add", "n", "n", 1)), (2, ("go", 0)), (3, ("back", "n")))
            table = self.check(main_alone(*steps, width=31))
            self.assertEqual(table["main", 0][0], {"n": (0, top)})
            self.assertEqual(table["main", 3][0], {"n": (top, top)})

    def test_calls_within_calls(self):
        self.assertEqual(self.numbers(FACTORIAL), {
            ("fac", 0): {"k": (0, 0), "m": (0, 0), "n": (0, 9)},
            ("fac", 1): {"k": (0, 0), "m": (0, 0), "n": (1, 9)},
            ("fac", 2): {"k": (0, 0), "m": (0, 8), "n": (1, 9)},
            ("fac", 3): {"k": (1, 30), "m": (0, 8), "n": (1, 9)},
            ("fac", 4): {"k": (1, 30), "m": (0, 8), "n": (1, 9)},
            ("fac", 10): {"k": (0, 0), "m": (0, 0), "n": (0, 0)},
            ("fac", 11): {"k": (1, 1), "m": (0, 0), "n": (0, 0)},
            ("main", 0): {"n": (0, 0), "r": (0, 0)},
            ("main", 1): {"n": (0, 9), "r": (0, 0)},
            ("main", 2): {"n": (0, 9), "r": (1, 30)},
            ("main", 3): {"n": (0, 9), "r": (1, 30)},
        })
        self.assertEqual(self.numbers(DEEP)["main", 2], {"n": (1, 31), "x": (1, 30)})

    def test_rows_and_fingers(self):
        table = self.check(BACKWARDS)
        self.assertEqual(table["main", 2], ({"n": (0, 12), "p": (0, 12), "x": (-12, 12)}, {"a": (0, 12, (-12, 12))},
                                            {("p", "a"): 0}))
        self.assertEqual(table["main", 5], ({"n": (1, 12), "p": (0, 11), "x": (-12, 12)}, {"a": (1, 12, (-12, 12))},
                                            {("p", "a"): -1}))

    def test_a_callee_that_never_goes_back(self):
        callee = ("f", (), (), (), ((0, ("go", 0)), (1, ("back", "x"))))
        program = (3, (("main", (), (), (), ((0, ("call", "x", "f", ())), (1, ("back", "x")))), callee))
        self.assertEqual(self.check(program), {("main", 0): ({"x": (0, 0)}, {}, {}), ("main", 1): None,
                                               ("f", 0): ({"x": (0, 0)}, {}, {}), ("f", 1): None})

    def test_calls_that_nobody_comes_to(self):
        """Backs lead behind those calls alone that are come to."""
        steps = ((0, ("set", "x", 2)), (1, ("call", "y", "f", ("x",))), (2, ("back", "y")), (3, ("call", "y", "f", ("y",))),
                 (4, ("back", "y")))
        callee = ("f", ("u",), (), (), ((0, ("back", "u")), (1, ("call", "u", "f", ("u",))), (2, ("back", "u"))))
        self.assertEqual(self.numbers((3, (("main", (), (), (), steps), callee))), {
            ("f", 0): {"u": (2, 2)}, ("f", 1): None, ("f", 2): None, ("main", 0): {"x": (0, 0), "y": (0, 0)},
            ("main", 1): {"x": (2, 2), "y": (0, 0)}, ("main", 2): {"x": (2, 2), "y": (2, 2)}, ("main", 3): None,
            ("main", 4): None})

    def test_two_backs_and_two_calls(self):
        """Behind each call stand the words of all backs, whether it is come to ahead of these or later."""
        for first, other in (((2, 2), (-1, -1)), ((0, 1), (2, 3)), ((0, 1), (-3, -2)), ((-2, 3), (0, 1)), ((0, 1), (-2, 3))):
            back = (min(first + other), max(first + other))
            steps = ((0, ("ask", "x", -3, 3)), (1, ("call", "y", "f", ("x",))), (2, ("tell", "y")), (3, ("tell", "x")),
                     (4, ("call", "z", "f", ("y",))), (5, ("back", "z")))
            callee = ("f", ("u",), (), (), ((0, ("if", "u", "<", 0, 3)), (1, ("ask", "u", *first)), (2, ("back", "u")),
                                            (3, ("ask", "u", *other)), (4, ("back", "u"))))
            for defs in ((("main", (), (), (), steps), callee), (callee, ("main", (), (), (), steps))):
                table = self.numbers((3, defs))
                self.assertEqual(table["main", 4], {"x": (-3, 3), "y": back, "z": (0, 0)})
                self.assertEqual(table["main", 5], {"x": (-3, 3), "y": back, "z": back})
                self.assertEqual(table["f", 0], {"u": (-3, 3)})


class TestByAllStates(LeastCase):
    """The table against one that is made by going through all states."""

    def compare(self, program):
        self.assertTrue(is_program(program), program)
        table = self.check(program)
        self.assertEqual(table, states.least_table(program), program)
        return table

    def test_small_programs(self):
        visited = 0
        for seed in range(700):
            program = small_program(seed)
            table = self.compare(program)
            visited += sum(box is not None for box in table.values())
            self.check_traces(program, table, random.Random(seed), 3)
        self.assertGreater(visited, 4000)

    def test_loops_rows_and_calls(self):
        for program in (HALVES, RING, COUNT):
            table = self.compare(program)
            self.check_traces(program, table, random.Random(1), 60)
        self.assertIsNotNone(least(HALVES)["seek", 7])
        table = least(RING)
        self.assertEqual({place for place, box in table.items() if box is None},
                         {("none", 0), ("none", 1), ("ever", 2)})

    def test_samples_of_lesser_width(self):
        for width in (1, 2, 3):
            for program, greatest in ((FACTORIAL, width), (DEEP, width), (BACKWARDS, min(width, 2))):
                self.compare(with_width(program, greatest))

    def test_each_act_in_a_loop(self):
        for acts in (
            (("plus", "x", "x", "y"), ("ask", "y", -1, 0)), (("minus", "x", "y", "x"), ("ask", "y", 0, 2)),
            (("times", "x", "x", "x"), ("ask", "x", -2, 1)), (("ask", "y", -2, 2), ("over", "x", "y", "y")),
            (("ask", "y", -2, 2), ("rest", "x", "x", "y"), ("add", "x", "x", -1)),
            (("mid", "x", "x", "y"), ("ask", "y", -2, 1)), (("check", "x", "<", 1), ("add", "x", "x", 1)),
        ):
            steps = [*enumerate(acts), (8, ("if", "x", "<=", "y", 0)), (9, ("back", "x"))]
            self.compare(main_alone(*steps, width=2))
        for acts in (
            (("row", "a", "x"), ("length", "p", "a"), ("add", "x", "p", 1)),
            (("row", "a", "x"), ("add", "x", "x", 1), ("get", "x", "a", "p")),
            (("row", "a", "x"), ("ask", "x", 0, 2), ("put", "a", "p", "x")),
            (("add", "p", "p", 1), ("row", "a", "p"), ("mid", "p", "p", "p"), ("length", "x", "a")),
            (("ask", "x", -2, 2), ("row", "a", "x"), ("if", "x", "<=", "p", 4), ("add", "p", "p", 1), ("tell", "x")),
        ):
            steps = [*enumerate(acts), (8, ("if", "p", "<=", "x", 0)), (9, ("back", "x"))]
            self.compare(main_alone(*steps, width=2, fingers=("p",), rows=("a",)))


def with_width(program, width):
    """The program with a lesser width, its asks cut by it."""
    def cut(act):
        return (*act[:2], *(min(width, max(-width, word)) for word in act[2:])) if act[0] == "ask" else act

    defs = tuple((*one[:4], tuple((label, cut(act)) for label, act in one[4])) for one in program[1])
    return (width, defs)


class TestAsTold(LeastCase):
    def test_all_places_and_no_others(self):
        for seed in range(40):
            program = made_program(seed)
            self.assertEqual(sorted(least(program)), places_of(program))

    def test_anew(self):
        for program in (*SAMPLES, HALVES, RING):
            kept = copy.deepcopy(program)
            table = least(program=program)
            again = least(program)
            self.assertEqual(table, again)
            self.assertOwn([table, again], program)
            for box in table.values():
                for part in box or ():
                    part.clear()
            table.clear()
            self.assertEqual(least(program), again)
            self.assertEqual(program, kept)


class TestGreatPrograms(LeastCase):
    def test_drawn_programs(self):
        for seed in range(150):
            program = made_program(seed)
            table = self.check(program)
            self.check_traces(program, table, random.Random(seed), 3)

    def test_samples(self):
        for program in (*SAMPLES, EVERY, alone(("ask", "x", 0, 5), ("row", "a", "x"), ("length", "p", "a"))):
            table = self.check(program)
            self.check_traces(program, table, random.Random(2), 30)

    def test_as_great_as_they_may_be(self):
        """Six defs of thirty steps each, of the greatest width, with as many names as there may be."""
        visited = []
        for seed in range(30):
            program = great_program(seed)
            self.assertTrue(is_program(program))
            self.assertEqual((program[0], [len(one[4]) for one in program[1]]), (31, [30] * 6))
            table = self.check(program)
            self.check_traces(program, table, random.Random(seed), 3)
            self.check_states(program, table, random.Random(seed))
            visited.append(sum(box is not None for box in table.values()))
        self.assertGreater(max(visited), 170)
        self.assertGreater(sum(visited), 30 * 70)

    def test_bounds_that_rise_one_behind_the_other(self):
        """Each number rises by one a turn, and only when the one ahead of it has come to the greatest word."""
        names = ("u", "v", "w", "x", "y", "z", "p", "q", "r")
        steps = []
        for at, name in enumerate(names):
            ahead = ("if", names[at - 1], "<=", 30) if at else ("if", 1, "<=", 0)
            steps += [(*ahead, 3 * at + 3), ("if", 31, "<=", name, 3 * at + 3), ("add", name, name, 1)]
        program = main_alone(*enumerate([*steps, ("row", "a", "u"), ("row", "b", "v"), ("go", 0)]), width=31,
                             fingers=("p", "q", "r"), rows=("a", "b"))
        table = self.check(program)
        self.assertEqual(table["main", 0][0], {name: (0, 31) for name in names})
        self.assertEqual(table["main", 26][0]["r"], (0, 30))

    def check_states(self, program, table, chance):
        """No drawn state that lies in the table is led out of it."""
        width = program[0]
        for place, box in table.items():
            for _ in range(3 if box else 0):
                state = states.drawn_state(chance, box)
                word = chance.randint(-width, width)
                made = one_step(program, place, state, word=word)
                if made[0] == "on":
                    self.assertTrue(lies(table[place[0], made[1]], made[2]))
                elif made[0] == "call":
                    self.assertTrue(lies(table[first_place(program, made[1])], made[2]))
                    self.check_behind(program, table, place, state, made[1])

    def check_behind(self, program, table, place, state, callee):
        for label, act in def_at(program, callee)[4]:
            box = table[callee, label]
            if act[0] == "back" and box is not None:
                for word in box[0][act[1]]:
                    made = behind(program, place, state, word)
                    self.assertTrue(lies(table[place[0], made[1]], made[2]))


if __name__ == "__main__":
    unittest.main()
