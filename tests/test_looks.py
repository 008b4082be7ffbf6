"""Looks, which of them are safe, states that fail them and trials that do (point 16)."""

import copy
import random
import unittest

import judging
import states
from cases import OwnCase
from samples import BACKWARDS, DEEP, EVERY, FACTORIAL, PLAIN_THREE, SAMPLES, THINGS, alone, great_program, made_program
from samples import small_program
from test_least import COUNT, HALVES, RING, main_alone
from test_papers import other_bounds, table_that_holds, whole_table
from withinall.boxes import tight
from withinall.errors import NoPlace, WithinError
from withinall.least import least
from withinall.looks import failing, first_trial, looks, safe
from withinall.papers import led_out
from withinall.programs import act_at, def_at, places_of
from withinall.runs import one_step, run, trace


def fails_by_all_states(program, table, place):
    """Whether some state that lies in the table at the place fails its look."""
    box = table[place]
    return box is not None and any(one_step(program, place, state)[0] == "fault"
                                   for state in states.states_in(box, program[0]))


class LooksCase(OwnCase):
    def look(self, program, table):
        """What is told of the looks of the table goes together; the places of the safe ones."""
        kept = copy.deepcopy((program, table))
        all_looks = looks(program)
        found = safe(program, table)
        told = []
        for place, why in all_looks:
            state = failing(program, table, place)
            told.append(state)
            self.assertEqual(state is None, place in found, (program, table, place))
            if state is not None:
                self.assertTrue(judging.is_state(program, place[0], state))
                self.assertTrue(judging.lies_in(table[place], state))
                self.assertEqual(one_step(program, place, state), ("fault", why))
        self.assertEqual(found, [place for place, _ in all_looks if place in found])
        self.assertEqual((program, table), kept)
        self.assertOwn([all_looks, found, told], table)
        return found

    def compare(self, program, table):
        """By all states that lie in the table."""
        found = self.look(program, table)
        self.assertEqual(found, [place for place, _ in looks(program) if not fails_by_all_states(program, table, place)])
        return found


class TestLooks(LooksCase):
    def test_of_all_acts(self):
        whys = {3: "great", 2: "great", 4: "great", 5: "great", 6: "great", 7: "nought", 8: "nought", 20: "size",
                21: "place", 22: "place", 26: "check"}
        self.assertEqual(looks(EVERY), [(("main", label), whys[label]) for label in sorted(whys)])
        self.assertEqual(looks(program=FACTORIAL), [(("fac", 1), "great"), (("fac", 3), "great")])
        self.assertEqual(looks(main_alone((0, ("go", 0)))), [])

    def test_rising_by_places(self):
        for seed in range(80):
            program = made_program(seed)
            told = looks(program)
            self.assertEqual(told, [(place, judging.LOOKS[act_at(program, place)[0]]) for place in places_of(program)
                                    if act_at(program, place)[0] in judging.LOOKS])
            self.assertTrue(all(isinstance(row, tuple) for row in told))
            told.clear()
            self.assertEqual(len(looks(program)) > 0, any(act_at(program, place)[0] in judging.LOOKS
                                                          for place in places_of(program)))


class TestSafe(LooksCase):
    def test_of_the_least(self):
        self.assertEqual(safe(BACKWARDS, least(BACKWARDS)), [("main", 1), ("main", 5), ("main", 11), ("main", 12)])
        self.assertEqual(safe(FACTORIAL, least(FACTORIAL)), [("fac", 1)])
        self.assertEqual(safe(program=COUNT, table=least(COUNT)), [("main", 1)])
        for program in (*SAMPLES, COUNT, HALVES, RING):
            self.look(program, least(program))

    def test_where_nothing_lies(self):
        """Where no state lies every look is safe."""
        for program in (*SAMPLES, RING):
            nothing = dict.fromkeys(places_of(program))
            self.assertEqual(self.look(program, nothing), [place for place, _ in looks(program)])
            table = whole_table(program)
            for place in table:
                if table[place][0]:
                    numbers = dict.fromkeys(table[place][0], (1, 0))
                    table[place] = (numbers, *table[place][1:])
            self.assertEqual(self.look(program, table), [place for place, _ in looks(program)])

    def test_of_whole_tables(self):
        """Where all states lie a look is safe only of a number with itself."""
        for program in (*SAMPLES, RING, *map(made_program, range(30))):
            safe_ones = []
            for place, _ in looks(program):
                kind, *parts = act_at(program, place)
                if kind == "minus" and parts[1] == parts[2] or kind == "add" and parts[2] == 0:
                    safe_ones.append(place)
                if kind == "times" and program[0] == 1 or kind == "check" and always_so(program[0], *parts):
                    safe_ones.append(place)
            self.assertEqual(self.look(program, whole_table(program)), safe_ones)

    def test_small_programs(self):
        """Of the least table, of wider ones, and of odd ones, by all states."""
        many = [0, 0]
        for seed in range(260):
            chance = random.Random(seed)
            program = small_program(seed)
            table = least(program)
            many[0] += len(self.compare(program, table))
            many[1] += len(looks(program))
            if seed % 4 == 0:
                self.compare(program, table_that_holds(program, chance))
                self.compare(program, {place: states.odd_box(chance, def_at(program, place[0]), program[0])
                                       for place in table})
            place = chance.choice(sorted(table))
            if table[place] is not None and place in dict(looks(program)):
                self.compare(program, chance.choice(list(other_bounds(table, place))))
        self.assertGreater(many[0], 400)
        self.assertGreater(many[1] - many[0], 200)

    def test_great_programs(self):
        for seed in range(12):
            program = great_program(seed)
            self.look(program, least(program))
            chance = random.Random(seed)
            self.look(program, {place: states.odd_box(chance, def_at(program, place[0]), 31) for place in places_of(program)})

    def test_safe_looks_never_fail(self):
        """No run fails a safe look of the least table, nor of a table that holds; a look that a run fails isn't safe."""
        failed = 0
        for seed in range(150):
            chance = random.Random(seed)
            program = (small_program, made_program)[seed % 2](seed)
            table = least(program)
            safe_ones = safe(program, table)
            for _ in range(12):
                words = [chance.randint(-program[0], program[0]) for _ in range(12)]
                end = run(program, words)[1]
                if end[0] == "fault" and end[1] not in ("deep", "steps"):
                    self.assertNotIn(end[2], safe_ones)
                    place, state = trace(program, words)[-1]
                    self.assertEqual(place, end[2])
                    self.assertIsNotNone(failing(program, table, place))
                    failed += 1
        self.assertGreater(failed, 150)

    def test_of_the_least_none_shows_more(self):
        """A state that fails, of the least table, lies in each table that holds."""
        for seed in range(100):
            program = small_program(seed)
            holding = table_that_holds(program, random.Random(seed))
            self.assertIsNone(led_out(program, holding))
            self.assertLessEqual(set(safe(program, holding)), set(safe(program, least(program))))
            for place, _ in looks(program):
                state = failing(program, least(program), place)
                self.assertTrue(state is None or judging.lies_in(holding[place], state))


def always_so(width, one, sign, other):
    """Whether a test is so whatever the numbers are."""
    if one == other:
        return sign == "<="
    if isinstance(one, int) and isinstance(other, int):
        return one < other or (one == other and sign == "<=")
    return sign == "<=" and (one == -width or other == width)


class TestFailing(LooksCase):
    def check(self, act, box, why, width=9):
        """The state that fails the look of an act of this box, None where it is safe."""
        program = alone(act, width=width, rows=("a",))
        table = whole_table(program)
        numbers, rows, rooms = table["main", 0]
        table["main", 0] = ({**numbers, **{name: box[name] for name in box if name in numbers}},
                            {**rows, **{name: box[name] for name in box if name in rows}},
                            {**rooms, **{pair: box[pair] for pair in box if pair in rooms}})
        self.assertEqual(looks(program), [(("main", 0), why)])
        state = failing(program, table, ("main", 0))
        self.assertEqual(safe(program, table), [("main", 0)] if state is None else [])
        if state is not None:
            self.assertTrue(judging.lies_in(table["main", 0], state), state)
            self.assertEqual(one_step(program, ("main", 0), state), ("fault", why))
        return state

    def test_sums(self):
        for act, box, so in (
            (("add", "x", "y", 3), {"y": (-9, 6)}, True), (("add", "x", "y", 3), {"y": (-9, 7)}, False),
            (("add", "p", "q", -3), {"q": (-6, 9)}, True), (("add", "p", "q", -3), {"q": (-7, 9)}, False),
            (("plus", "x", "y", "z"), {"y": (-4, 5), "z": (-5, 4)}, True),
            (("plus", "x", "y", "z"), {"y": (-4, 5), "z": (-5, 5)}, False),
            (("plus", "x", "y", "z"), {"y": (-4, 5), "z": (-6, 4)}, False),
            (("minus", "x", "y", "z"), {"y": (-4, 5), "z": (-4, 5)}, True),
            (("minus", "x", "y", "z"), {"y": (-4, 5), "z": (-5, 5)}, False),
            (("minus", "x", "y", "z"), {"y": (-5, 5), "z": (-4, 5)}, False),
            (("times", "x", "y", "z"), {"y": (-3, 3), "z": (-3, 3)}, True),
            (("times", "x", "y", "z"), {"y": (-1, 2), "z": (-5, 4)}, False),
            (("times", "x", "y", "z"), {"y": (-2, 1), "z": (-5, 4)}, False),
            (("times", "x", "y", "z"), {"y": (1, 2), "z": (3, 5)}, False),
            (("times", "x", "y", "z"), {"y": (-2, -1), "z": (-5, -3)}, False),
            (("times", "x", "y", "z"), {"y": (0, 0)}, True),
        ):
            self.assertEqual(self.check(act, box, "great") is None, so, (act, box))

    def test_a_name_with_itself(self):
        for box, so in (((-9, 9), False), ((-3, 3), True), ((-3, 4), False), ((-4, 3), False), ((2, 3), True)):
            self.assertEqual(self.check(("times", "x", "y", "y"), {"y": box}, "great") is None, so)
        for box, so in (((-9, 9), False), ((-4, 4), True), ((-4, 5), False), ((-5, 4), False)):
            self.assertEqual(self.check(("plus", "x", "y", "y"), {"y": box}, "great") is None, so)
        for act in (("minus", "x", "y", "y"), ("minus", "x", "x", "x")):
            self.assertIsNone(self.check(act, {}, "great"))
        for name in ("y", "p"):
            self.assertIsNone(self.check(("check", name, "<=", name), {}, "check"))
            self.assertIsNotNone(self.check(("check", name, "<", name), {}, "check"))
        for kind in ("over", "rest"):
            self.assertEqual(self.check((kind, "x", "y", "y"), {"y": (-1, 5)}, "nought")["y"], 0)
            self.assertIsNone(self.check((kind, "x", "y", "y"), {"y": (1, 5)}, "nought"))

    def test_noughts_and_sizes(self):
        for kind in ("over", "rest"):
            for box, so in (((0, 0), False), ((0, 3), False), ((-3, 0), False), ((-1, 1), False), ((1, 9), True), ((-9, -1), True)):
                state = self.check((kind, "x", "y", "z"), {"z": box, "y": (4, 4)}, "nought")
                self.assertEqual(state is None, so)
                self.assertTrue(so or (state["z"], state["y"]) == (0, 4))
        for name in ("y", "p"):
            self.assertIsNone(self.check(("row", "a", name), {name: (0, 9)}, "size"))
            self.assertEqual(self.check(("row", "a", name), {name: (-1, 9)}, "size")[name], -1)

    def test_places(self):
        for act in (("get", "x", "a", "p"), ("put", "a", "p", "x"), ("get", "x", "a", "y"), ("put", "a", "y", "x")):
            name = "p" if "p" in act else "y"
            self.assertIsNone(self.check(act, {name: (0, 4), "a": (5, 9, (1, 1))}, "place"))
            self.assertEqual(self.check(act, {name: (-1, 4), "a": (5, 9, (1, 1))}, "place")[name], -1)
            state = self.check(act, {name: (0, 5), "a": (5, 9, (1, 1))}, "place")
            self.assertEqual((state[name], state["a"]), (5, (1,) * 5))
            self.assertIsNotNone(self.check(act, {name: (0, 0), "a": (0, 9, (1, 1))}, "place"))
        for act in (("get", "x", "a", "p"), ("put", "a", "p", "x")):
            self.assertIsNone(self.check(act, {"p": (0, 9), ("p", "a"): -1}, "place"))
            state = self.check(act, {"p": (0, 9), ("p", "a"): 0}, "place")
            self.assertEqual(state["p"], len(state["a"]))

    def test_checks(self):
        for one, sign, other, box, so in (
            ("x", "<", "y", {"x": (0, 3), "y": (4, 9)}, True), ("x", "<", "y", {"x": (0, 4), "y": (4, 9)}, False),
            ("x", "<=", "y", {"x": (0, 4), "y": (4, 9)}, True), ("x", "<=", "y", {"x": (0, 5), "y": (4, 9)}, False),
            ("x", "<", 5, {"x": (0, 4)}, True), ("x", "<", 4, {"x": (0, 4)}, False),
            (0, "<=", "p", {"p": (0, 4)}, True), (1, "<=", "p", {"p": (0, 4)}, False),
            (1, "<", 2, {}, True), (2, "<", 2, {}, False), (2, "<=", 2, {}, True), (3, "<=", 2, {}, False),
        ):
            self.assertEqual(self.check(("check", one, sign, other), box, "check") is None, so, (one, sign, other, box))
        # Two fingers are held against each other by nothing but their words.
        self.assertIsNone(self.check(("check", "p", "<=", "q"), {"p": (0, 3), "q": (3, 9)}, "check"))
        self.assertIsNotNone(self.check(("check", "p", "<=", "q"), {("p", "a"): -5, ("q", "a"): 3}, "check"))

    def test_no_place(self):
        """Of anything that isn't the place of a look; the field is what was handed in."""
        table = least(BACKWARDS)
        odd = [place for place in places_of(BACKWARDS) if place not in dict(looks(BACKWARDS))]
        self.assertEqual(len(odd), 8)
        odd += [*THINGS, ("main", 99), ("main", -1), ("main", True), ("main", "1"), ("f", 1), ["main", 1], ("main", 1, 1),
                ("main",), (("main", 1),), ((), []), ({}, 1), ("main", [1])]
        for thing in odd:
            for told in (lambda: failing(BACKWARDS, table, thing), lambda: failing(BACKWARDS, dict.fromkeys(table), thing),
                         lambda: first_trial(BACKWARDS, thing, []), lambda: first_trial(BACKWARDS, thing, [(1,)], steps=0)):
                with self.assertRaises(NoPlace) as caught:
                    told()
                self.assertIs(caught.exception.place, thing)
                self.assertIsInstance(caught.exception, WithinError)
        self.assertIsNone(failing(program=BACKWARDS, table=table, place=("main", 1)))

    def test_anew(self):
        table = whole_table(BACKWARDS)
        one, other = failing(BACKWARDS, table, ("main", 1)), failing(BACKWARDS, table, ("main", 1))
        self.assertEqual(one, other)
        self.assertOwn([one, other], table)
        one.clear()
        self.assertEqual(failing(BACKWARDS, table, ("main", 1)), other)


class TestFirstTrial(LooksCase):
    DIVIDE = main_alone((0, ("ask", "x", -9, 9)), (1, ("ask", "y", -9, 9)), (2, ("over", "z", "x", "y")), (3, ("tell", "z")),
                        (4, ("plus", "x", "x", "x")), (5, ("if", "x", "<", 9, 0)), (6, ("back", "x")))

    def test_numbers(self):
        nought, great = ("main", 2), ("main", 4)
        trials = [(4, 2, 1, 1), (1,), (3, 0), (5, 5), (5, 0), ()]
        self.assertEqual(first_trial(self.DIVIDE, nought, trials), 0)
        self.assertEqual(first_trial(self.DIVIDE, nought, [(5, 5), (9, 1), (3, 0), ()]), 2)
        self.assertEqual(first_trial(self.DIVIDE, great, trials), 3)
        self.assertEqual(first_trial(self.DIVIDE, great, trials[:3]), None)
        self.assertEqual(first_trial(self.DIVIDE, nought, [(5, 5)]), None)
        self.assertEqual(first_trial(self.DIVIDE, nought, ((5, 5), ())), 1)

    def test_none(self):
        for place, _ in looks(self.DIVIDE):
            self.assertIsNone(first_trial(self.DIVIDE, place, []))
            self.assertIsNone(first_trial(program=self.DIVIDE, place=place, trials=()))

    def test_steps(self):
        """A run that may not begin the step doesn't fault there by that why."""
        nought = ("main", 2)
        for steps in range(6):
            told = first_trial(self.DIVIDE, nought, [(1, 1), (1, 0)], steps=steps)
            self.assertEqual(told, 1 if steps >= 3 else None)
        many = (4, 1) + (-9, 1) * 40
        program = main_alone((0, ("ask", "x", 0, 9)), (1, ("check", "x", "<", 9)), (2, ("go", 0)))
        words = (1,) * 70 + (9,)
        self.assertEqual(first_trial(program, ("main", 1), [words]), None)
        self.assertEqual(first_trial(program, ("main", 1), [words], steps=211), None)
        self.assertEqual(first_trial(program, ("main", 1), [words], steps=212), 0)
        self.assertEqual(first_trial(program, ("main", 1), [words[4:], words[3:]]), 0)
        self.assertEqual(first_trial(program, ("main", 1), [words[3:], words[4:]]), 1)
        later = main_alone((0, ("set", "x", 1)), (1, ("ask", "x", 0, 9)), (2, ("check", "x", "<", 9)), (3, ("go", 1)))
        self.assertEqual(first_trial(later, ("main", 2), [words[4:], words[5:]]), 1)
        self.assertEqual(first_trial(later, ("main", 2), [words[4:], words[5:]], steps=201), 0)
        self.assertEqual(first_trial(self.DIVIDE, ("main", 4), [many]), run(self.DIVIDE, many)[1][1] == "great" and 0)

    def test_against_runs(self):
        told_of = set()
        for seed in range(150):
            chance = random.Random(seed)
            program = (made_program, small_program)[seed % 2](seed)
            trials = [tuple(chance.randint(-program[0], program[0]) for _ in range(chance.randint(0, 9)))
                      for _ in range(6)]
            kept = copy.deepcopy(trials)
            for place, why in looks(program):
                steps = chance.choice((0, 3, 10, 200))
                so = [run(program, words, steps=steps)[1] == ("fault", why, place) for words in trials]
                told = first_trial(program, place, trials, steps=steps)
                self.assertEqual(told, so.index(True) if True in so else None)
                told_of.add(told)
            self.assertEqual(trials, kept)
        self.assertLessEqual({None, 0, 1, 2}, told_of)

    def test_other_ends(self):
        """Runs that end there because of too many steps or calls don't fault there by that why."""
        callee = ("f", (), (), (), ((0, ("check", 0, "<", 1)), (1, ("call", "x", "f", ())), (2, ("back", "x"))))
        program = (9, (("main", (), (), (), ((0, ("call", "x", "f", ())), (1, ("back", "x")))), callee))
        self.assertEqual(run(program)[1], ("fault", "deep", ("f", 1)))
        self.assertIsNone(first_trial(program, ("f", 0), [(), ()]))
        self.assertEqual(run(program, steps=3)[1], ("fault", "steps", ("f", 0)))
        self.assertIsNone(first_trial(program, ("f", 0), [()], steps=3))


class TestTogether(LooksCase):
    def test_three_ways(self):
        """A trial that fails a look shows that it isn't safe, of the least table and of each that holds."""
        shown = 0
        for seed in range(60):
            chance = random.Random(seed)
            program = small_program(seed)
            trials = [tuple(chance.randint(-2, 2) % (2 * program[0] + 1) - program[0] for _ in range(6)) for _ in range(12)]
            table = least(program)
            for place, _ in looks(program):
                if first_trial(program, place, trials) is not None:
                    shown += 1
                    self.assertIsNotNone(failing(program, table, place))
                    self.assertIsNotNone(tight(table[place], width=program[0]))
        self.assertGreater(shown, 20)

    def test_each_sum_and_deep(self):
        for kind in PLAIN_THREE:
            program = alone(("ask", "y", -3, 3), ("ask", "z", -3, 3), (kind, "x", "y", "z"), width=3, fingers=(), rows=())
            self.compare(program, least(program))
        self.look(DEEP, least(DEEP))


if __name__ == "__main__":
    unittest.main()
