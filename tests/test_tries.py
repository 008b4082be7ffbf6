"""The few states that papers, steps and looks are made of: what they make meets each bound of what boxes lead to."""

import itertools
import random
import unittest

import judging
import states
from samples import PLAIN_THREE, made_act
from test_leads import ACTS_OF_ROWS, AT, SHAPES, SIDES, acts_of_numbers, sides, standing
from withinall.boxes import box_of, hull, lies, tight
from withinall.leads import Spot, leads
from withinall.programs import def_at, is_program
from withinall.runs import one_step
from withinall.tries import corners, doubtful, tries


class TriesCase(unittest.TestCase):
    def boxes_for(self, program, chance, many):
        """Some tight boxes of main."""
        made = []
        while len(made) < many:
            one = tight(states.odd_box(chance, def_at(program, "main"), program[0]), width=program[0])
            if one is not None:
                made.append(one)
        return made

    def hulls(self, program, made):
        """The hulls of the boxes of these states, by their places."""
        found = {}
        for place, state in made:
            found[place] = hull(found.get(place), box_of(program, place[0], state))
        return found

    def check(self, program, box):
        """The states that are tried make all that the box leads to, bound by bound."""
        rows = []
        for state, word in tries(Spot(program, AT), box):
            self.assertTrue(judging.is_state(program, "main", state))
            self.assertTrue(lies(box, state), (program, box, state))
            rows.append(judging.made_by(program, ("out", AT, state, word)))
        made = self.hulls(program, [row for row in rows if row is not None])
        self.assertEqual(made, dict(leads(program, AT, box)), (program, box))

    def check_act(self, act, shapes=SHAPES, many=4):
        for fingers, rows, width in shapes:
            program = standing(act, fingers, rows, width)
            self.assertTrue(is_program(program), act)
            for box in self.boxes_for(program, random.Random(repr((act, width))), many):
                self.check(program, box)


WIDE = ((("p", "q", "r"), ("a", "b"), 31), (("p", "q"), ("a", "b"), 5), (("p", "q"), ("a",), 12))


class TestCorners(TriesCase):
    def test_meet_each_bound(self):
        for fingers, rows, width in (*SHAPES, *WIDE, ((), ("a", "b"), 9), (("p",), (), 9)):
            program = standing(("plus", "x", "y", "z"), fingers, rows, width)
            for box in self.boxes_for(program, random.Random(width), 60):
                found = corners(box)
                for state in found:
                    self.assertTrue(lies(box, state))
                self.assertEqual(self.hulls(program, [(AT, state) for state in found]), {AT: box})
                self.assertEqual([found[0][name] for name in box[0]], [least for least, _ in box[0].values()])
                self.assertEqual([found[1][name] for name in box[0]], [greatest for _, greatest in box[0].values()])


class TestTries(TriesCase):
    def test_numbers(self):
        for shape in (*SHAPES, (("p", "q", "r"), ("a", "b"), 3), (("p", "q"), (), 2)):
            for act in acts_of_numbers(shape[2]):
                self.check_act(act, (shape,), 6)

    def test_sums_of_great_words(self):
        for kind in PLAIN_THREE:
            for names in (("y", "z"), ("x", "y"), ("y", "x"), ("y", "y"), ("x", "x")):
                self.check_act((kind, "x", *names), WIDE, 25)

    def test_rows(self):
        for act in ACTS_OF_ROWS:
            self.check_act(act, SHAPES, 20)
            self.check_act(act, WIDE, 60)

    def test_checks_and_ifs(self):
        for shape in (*SHAPES, (("p", "q"), ("a", "b"), 3)):
            for (one, other), sign in itertools.product(sides(shape[2]), ("<", "<=")):
                self.check_act(("check", one, sign, other), (shape,), 6)
                self.check_act(("if", one, sign, other, 2), (shape,), 6)
                self.check_act(("if", one, sign, other, 7), (shape,), 3)
        for (one, other), sign in itertools.product(SIDES, ("<", "<=")):
            self.check_act(("check", one, sign, other), WIDE, 40)

    def test_goes_backs_and_calls(self):
        for act in (("go", 2), ("go", 5), ("back", "x"), ("back", "p"), ("call", "x", "main", ())):
            self.check_act(act)
        chance = random.Random(5)
        callees = (("f", ("p", "a", "u", "q"), ("p", "q"), ("a",)), ("g", ("b", "a", "v"), ("p",), ("a", "b")),
                   ("h", ("u", "v"), ("p",), ("a",)), ("i", ("p",), ("p", "q"), ("a", "b")), ("j", ("a",), ("p",), ("a",)))
        many = 0
        while many < 400:
            fingers, rows, width = chance.choice(SHAPES + WIDE)
            act = made_act(chance, width, fingers, rows, (5,), callees, ("x", "y"))
            if act[0] != "call":
                continue
            many += 1
            program = standing(act, fingers, rows, width)
            defs = tuple((*head, ((0, ("back", "x")),)) for head in callees)
            program = (width, (*program[1], *defs))
            self.assertTrue(is_program(program))
            for box in self.boxes_for(program, chance, 4):
                self.check(program, box)

    def test_drawn_acts(self):
        chance = random.Random(9)
        for _ in range(1500):
            fingers, rows, width = chance.choice(SHAPES + WIDE)
            act = made_act(chance, width, fingers, rows, (2, 5, 7), (("main", (), fingers, rows),), ("x", "y", "z"))
            self.check_act(act, ((fingers, rows, width),), 4)


class TestDoubtful(TriesCase):
    def fails(self, program, box):
        """Some state in doubt that lies in the box fails; none where all pass."""
        found = doubtful(Spot(program, AT), box)
        for state in found:
            self.assertTrue(lies(box, state), (program, box))
        return any(one_step(program, AT, state)[0] == "fault" for state in found)

    def test_against_all_states(self):
        both = [0, 0]
        acts = [act for act in (*acts_of_numbers(1), *ACTS_OF_ROWS) if act[0] in judging.LOOKS]
        acts += [("check", one, sign, other) for one, other in sides(1) for sign in ("<", "<=")]
        for act in acts:
            for fingers, rows, width in SHAPES:
                program = standing(act, fingers, rows, width)
                for box in self.boxes_for(program, random.Random(repr(act)), 6):
                    so = any(one_step(program, AT, state)[0] == "fault" for state in states.states_in(box, width))
                    self.assertEqual(self.fails(program, box), so, (act, box))
                    both[so] += 1
        self.assertGreater(min(both), 300)

    def test_sums_of_great_words(self):
        """By all pairs of words."""
        for kind in PLAIN_THREE:
            for y, z in (("y", "z"), ("x", "y"), ("y", "y")):
                program = standing((kind, "x", y, z), ("p",), ("a",), 31)
                for box in self.boxes_for(program, random.Random(kind), 40):
                    ends = [range(low, high + 1) for low, high in (box[0][y], box[0][z])]
                    state = corners(box)[0]
                    pairs = itertools.product(*ends) if y != z else zip(ends[0], ends[0])
                    so = any(one_step(program, AT, {**state, y: one, z: other})[0] == "fault" for one, other in pairs)
                    self.assertEqual(self.fails(program, box), so, (kind, y, z, box))


if __name__ == "__main__":
    unittest.main()
