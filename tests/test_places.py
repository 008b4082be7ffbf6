"""Names, numbers, places, acts, defs, first and next places (point 4)."""

import copy
import unittest

import oracle
from samples import BACKWARDS, DEEP, EVERY, FACTORIAL, SAMPLES, alone, made_program
from withinall.programs import (act_at, def_at, first_place, is_program, names_of, next_place, numbers_of,
                                places_of)

PROGRAMS = (*SAMPLES, *(made_program(seed) for seed in range(150)))


class TestNames(unittest.TestCase):
    def test_names_of(self):
        main, other = EVERY[1]
        self.assertEqual(names_of(main), ["a", "b", "p", "q", "x", "y", "z"])
        self.assertEqual(names_of(other), ["f", "n", "r"])
        self.assertEqual(names_of(FACTORIAL[1][0]), ["k", "m", "n"])
        self.assertEqual(names_of(BACKWARDS[1][0]), ["a", "n", "p", "x"])

    def test_numbers_of(self):
        main, other = EVERY[1]
        self.assertEqual(numbers_of(main), ["p", "q", "x", "y", "z"])
        self.assertEqual(numbers_of(other), ["f", "n"])
        self.assertEqual(numbers_of(BACKWARDS[1][0]), ["n", "p", "x"])

    def test_names_that_stand_nowhere_in_acts(self):
        definition = ("f", ("n", "r"), ("p",), ("r", "s"), ((3, ("go", 3)),))
        self.assertEqual(names_of(definition), ["n", "p", "r", "s"])
        self.assertEqual(numbers_of(definition), ["n", "p"])
        bare = ("main", (), (), (), ((0, ("go", 0)),))
        self.assertEqual(names_of(bare), [])
        self.assertEqual(numbers_of(bare), [])

    def test_names_that_stand_in_one_act_alone(self):
        acts = {("check", "n", "<", 3): ["n", "x"], ("check", 3, "<", "n"): ["n", "x"], ("check", 3, "<", 3): ["x"],
                ("if", "m", "<=", "n", 0): ["m", "n", "x"], ("tell", "n"): ["n", "x"],
                ("set", "set", 1): ["set", "x"], ("ask", "ask", 1, 2): ["ask", "x"],
                ("add", "m", "n", 1): ["m", "n", "x"], ("times", "k", "m", "n"): ["k", "m", "n", "x"],
                ("call", "n", "main", ()): ["n", "x"], ("go", 0): ["x"]}
        for act, names in acts.items():
            self.assertEqual(names_of(alone(act, fingers=(), rows=())[1][0]), names)

    def test_callees_are_no_names_but_what_is_given_is(self):
        steps = ((0, ("call", "x", "f", ("m", "a", "m"))), (1, ("back", "x")))
        definition = ("main", (), (), ("a",), steps)
        program = (3, (definition, ("f", ("k", "r", "l"), (), ("r",), ((0, ("back", "k")),))))
        self.assertTrue(is_program(program))
        self.assertEqual(names_of(definition), ["a", "m", "x"])
        self.assertEqual(numbers_of(definition), ["m", "x"])
        self.assertEqual(numbers_of(definition=program[1][1]), ["k", "l"])
        self.assertEqual(names_of(definition=program[1][1]), ["k", "l", "r"])

    def test_rising_as_texts_do(self):
        params = ("b", "ab", "a", "aa", "zzzz", "z")
        definition = ("f", params, (), (), ((0, ("back", "a")),))
        self.assertEqual(names_of(definition), ["a", "aa", "ab", "b", "z", "zzzz"])
        self.assertEqual(numbers_of(definition), ["a", "aa", "ab", "b", "z", "zzzz"])

    def test_of_all_programs(self):
        for program in PROGRAMS:
            for definition in program[1]:
                names = sorted(oracle.all_names(definition))
                self.assertEqual(names_of(definition), names)
                self.assertEqual(numbers_of(definition), [name for name in names if name not in definition[3]])


class TestPlaces(unittest.TestCase):
    def test_places_of(self):
        self.assertEqual(places_of(FACTORIAL), [("fac", label) for label in (0, 1, 2, 3, 4, 10, 11)]
                         + [("main", label) for label in range(4)])
        self.assertEqual(places_of(EVERY)[-2:], [("rows", 5), ("rows", 7)])

    def test_places_rise_by_names_whatever_the_order_of_defs(self):
        step = ((10, ("go", 10)),)
        names = ("z", "main", "aa", "b", "a")
        program = (3, tuple((name, (), (), (), step) for name in names))
        self.assertEqual(places_of(program=program), [(name, 10) for name in sorted(names)])

    def test_labels_rise_as_numbers(self):
        steps = tuple((label, ("go", 2)) for label in (2, 10, 9999))
        self.assertEqual(places_of((3, (("main", (), (), (), steps),))), [("main", 2), ("main", 10), ("main", 9999)])

    def test_act_at(self):
        for program in PROGRAMS:
            for definition in program[1]:
                for label, act in definition[4]:
                    self.assertEqual(act_at(program, (definition[0], label)), act)
        self.assertEqual(act_at(program=EVERY, place=("rows", 7)), ("back", "n"))
        self.assertEqual(act_at(EVERY, ("main", 9999)), ("back", "p"))

    def test_def_at(self):
        for program in PROGRAMS:
            for definition in program[1]:
                self.assertEqual(def_at(program, definition[0]), definition)
        self.assertEqual(def_at(program=EVERY, name="rows"), EVERY[1][1])

    def test_first_place(self):
        self.assertEqual(first_place(EVERY, "main"), ("main", 0))
        self.assertEqual(first_place(EVERY, "rows"), ("rows", 5))
        self.assertEqual(first_place(program=DEEP, name="down"), ("down", 0))

    def test_next_place(self):
        self.assertEqual(next_place(EVERY, ("main", 0)), ("main", 1))
        self.assertEqual(next_place(EVERY, ("main", 27)), ("main", 100))
        self.assertEqual(next_place(EVERY, ("main", 200)), ("main", 9999))
        self.assertIsNone(next_place(EVERY, ("main", 9999)))
        self.assertEqual(next_place(EVERY, ("rows", 5)), ("rows", 7))
        self.assertIsNone(next_place(program=EVERY, place=("rows", 7)))

    def test_from_the_first_through_all_next_ones(self):
        for program in PROGRAMS:
            seen = []
            for definition in program[1]:
                place = first_place(program, definition[0])
                while place is not None:
                    self.assertIsInstance(place, tuple)
                    seen.append(place)
                    place = next_place(program, place)
            self.assertEqual(sorted(seen), places_of(program))


class TestTheAskersOwn(unittest.TestCase):
    def test_lists_are_new_ones(self):
        for program in SAMPLES:
            kept = copy.deepcopy(program)
            asks = [lambda: places_of(program)]
            for definition in program[1]:
                asks += [lambda d=definition: names_of(d), lambda d=definition: numbers_of(d)]
            for ask in asks:
                told = ask()
                self.assertIsInstance(told, list)
                same = list(told)
                told.clear()
                told.append("other")
                self.assertEqual(ask(), same)
                self.assertIsNot(ask(), ask())
            self.assertEqual(program, kept)


if __name__ == "__main__":
    unittest.main()
