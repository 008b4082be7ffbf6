"""Boxes (points 10 and 11)."""

import copy
import itertools
import random
import unittest

import states
from cases import OwnCase
from samples import SAMPLES, made_program
from withinall.boxes import box_of, hull, lies, met, tight, within
from withinall.programs import def_at
from withinall.runs import beginning, trace

BACK = ((0, ("back", "x")),)


def program(params=(), fingers=("p", "q"), rows=("a", "b"), width=5):
    return (width, (("f", params, fingers, rows, BACK), ("main", (), (), (), BACK)))


PLAIN = program((), (), ())
# Defs of few names, each with a width by which all states may be gone through.
FEW = [(def_at(program(params, fingers, rows), "f"), width) for params, fingers, rows, width in (
    ((), (), (), 3), (("y",), (), (), 2), ((), ("p",), (), 2), ((), (), ("a",), 2), ((), (), ("a", "b"), 1),
    ((), ("p",), ("a",), 1), ((), ("p",), ("a",), 2), ((), ("p", "q"), ("a",), 1), ((), ("p",), ("a", "b"), 1),
    ((), ("p", "q"), ("a", "b"), 1), ((), ("p", "q", "r"), ("a",), 1), ((), ("p",), ("a",), 3),
)]


def box(x=(0, 0), p=(0, 0), a=(0, 0, None), room=0):
    """A box of a def of one plain number, one finger and one row."""
    return ({"x": x, "p": p}, {"a": a}, {("p", "a"): room})


def shuffled(one):
    """The same box, its parts the other way about in its dicts."""
    return tuple(dict(reversed(list(part.items()))) for part in one)


class TestBoxOf(OwnCase):
    def test_numbers_alone(self):
        self.assertEqual(box_of(PLAIN, "main", {"x": -5}), ({"x": (-5, -5)}, {}, {}))
        self.assertEqual(box_of(program(("y",), (), ()), "f", {"x": 1, "y": 5}), ({"x": (1, 1), "y": (5, 5)}, {}, {}))

    def test_fingers_or_rows_alone(self):
        self.assertEqual(box_of(program(rows=()), "f", {"x": 0, "p": 1, "q": -2}),
                         ({"x": (0, 0), "p": (1, 1), "q": (-2, -2)}, {}, {}))
        self.assertEqual(box_of(program(fingers=()), "f", {"x": 0, "a": (), "b": (3, -1, 2)}),
                         ({"x": (0, 0)}, {"a": (0, 0, None), "b": (3, 3, (-1, 3))}, {}))

    def test_rooms_and_cells(self):
        state = {"x": 4, "p": 3, "q": -5, "a": (2, 2, 2, 2, 2), "b": ()}
        self.assertEqual(box_of(program(), "f", state), (
            {"x": (4, 4), "p": (3, 3), "q": (-5, -5)},
            {"a": (5, 5, (2, 2)), "b": (0, 0, None)},
            {("p", "a"): -2, ("q", "a"): -10, ("p", "b"): 3, ("q", "b"): -5},
        ))
        state = {"x": 4, "p": 0, "q": 0, "a": (-5,), "b": (5, 0, -4, 0)}
        self.assertEqual(box_of(program=program(), name="f", state=state)[1], {"a": (1, 1, (-5, -5)), "b": (4, 4, (-4, 5))})

    def test_all_states(self):
        for definition, width in FEW:
            whole = (width, (definition,))
            wide = ({name: (-9, 9) for name in states.oracle.all_names(definition) - set(definition[3])},
                    {row: (0, 9, (-9, 9)) for row in definition[3]},
                    {pair: 9 for pair in itertools.product(definition[2], definition[3])})
            for state in states.states_in(wide, min(width, 2)):
                kept = copy.deepcopy(state)
                one = box_of(whole, "f", state)
                self.assertEqual(one, states.hull_of(definition, [state]))
                self.assertEqual(state, kept)
                self.assertTrue(lies(one, state))
                self.assertEqual(tight(one, width=width), one)


class TestLies(OwnCase):
    def bounds(self, one, state, name, inside, outside):
        for worth in inside:
            self.assertIs(lies(one, {**state, name: worth}), True, worth)
        for worth in outside:
            self.assertIs(lies(one, {**state, name: worth}), False, worth)

    def test_each_bound_and_one_beside_it(self):
        one = box((-2, 3), (-1, 4), (2, 4, (-3, 1)), 1)
        state = {"x": 0, "p": 0, "a": (0, 0, 0)}
        self.bounds(one, state, "x", (-2, 0, 3), (-3, 4))
        self.bounds(one, state, "p", (-1, 0, 4), (-2, 5))
        self.bounds(one, {**state, "a": (0,) * 4}, "p", (-1, 0, 4), (-2, 5))
        self.bounds(one, {**state, "a": (0,) * 2}, "p", (-1, 0, 3), (-2, 4, 5))
        self.bounds(one, state, "a", ((0,) * 2, (0,) * 4, (-3, 1), (1, 1, -3)),
                    ((), (0,), (0,) * 5, (-4, 0), (0, 2), (0, 0, 0, 2)))

    def test_fingers_less_lengths(self):
        for room in (-3, -1, 0, 2):
            one = box((0, 0), (-9, 9), (0, 5, (0, 0)), room)
            for length in range(6):
                state = {"x": 0, "p": length + room, "a": (0,) * length}
                self.bounds(one, state, "p", (length + room, length + room - 1), (length + room + 1,))

    def test_cells(self):
        state = {"x": 0, "p": 0, "a": ()}
        self.bounds(box(a=(0, 5, None), room=9), state, "a", ((),), ((0,), (0, 0)))
        self.bounds(box(a=(1, 5, None), room=9), state, "a", (), ((), (0,), (0, 0)))
        self.bounds(box(a=(0, 5, (3, 2)), room=9), state, "a", ((),), ((2,), (3,), (3, 2)))
        self.bounds(box(a=(0, 0, (3, 4)), room=9), state, "a", ((),), ((3,), (4,)))

    def test_turned_and_beyond(self):
        state = {"x": 0, "p": 0, "a": ()}
        self.assertFalse(lies(box(x=(1, -1)), state))
        self.assertFalse(lies(box(a=(1, 0, None)), state))
        self.assertTrue(lies(box((-10 ** 59, 10 ** 59), (-99, 99), (-7, 99, (-88, 88)), 10 ** 59), state))
        self.assertFalse(lies(box(room=-10 ** 59), state))

    def test_nothing(self):
        self.assertIs(lies(None, {"x": 0, "p": 0, "a": ()}), False)

    def test_boxes_against_states(self):
        chance = random.Random(1)
        for definition, width in FEW:
            for _ in range(60):
                one, other = (states.odd_box(chance, definition, width) for _ in range(2))
                kept = copy.deepcopy(one)
                for state in states.states_in(other, min(width, 2)):
                    self.assertIs(lies(one, state), states.in_box(one, state))
                self.assertEqual(one, kept)

    def test_keywords(self):
        self.assertTrue(lies(box=box(), state={"x": 0, "p": 0, "a": ()}))


class TestHull(OwnCase):
    def test_bounds(self):
        one, other = box((0, 3), (1, 1), (0, 2, (4, 5)), -1), box((2, 5), (-4, 2), (1, 1, (-2, 4)), -3)
        both = box((0, 5), (-4, 2), (0, 2, (-2, 5)), -1)
        self.assertEqual(hull(one, other), both)
        self.assertEqual(hull(one=other, other=one), both)
        self.assertEqual(hull(one, shuffled(other)), both)

    def test_nothing(self):
        one = box((0, 3), (1, 1), (0, 2, (4, 5)), -1)
        self.assertIsNone(hull(None, None))
        for made in (hull(one, None), hull(None, one), hull(one, one)):
            self.assertEqual(made, one)
            self.assertOwn(made, one)

    def test_cells(self):
        none, some = box(a=(0, 0, None)), box(a=(1, 2, (-1, 1)))
        self.assertEqual(hull(none, none)[1]["a"], (0, 0, None))
        self.assertEqual(hull(none, some)[1]["a"], (0, 2, (-1, 1)))
        self.assertEqual(hull(some, none)[1]["a"], (0, 2, (-1, 1)))

    def test_odd_ones_bound_by_bound(self):
        one, other = box((5, -5), (9, 99), (3, 1, (4, 2)), 70), box((7, -8), (-99, -9), (6, -6, (3, 3)), -70)
        both = box((5, -5), (-99, 99), (3, 1, (3, 3)), 70)
        self.assertEqual(hull(one, other), both)
        self.assertEqual(hull(other, one), both)
        self.assertEqual(hull(one, one), one)

    def test_of_the_boxes_of_states(self):
        chance = random.Random(2)
        for definition, width in FEW:
            for _ in range(30):
                one, other = (tight(states.odd_box(chance, definition, width), width=width) for _ in range(2))
                kept = copy.deepcopy((one, other))
                made = hull(one, other)
                all_states = [state for part in (one, other) if part for state in states.states_in(part, width)]
                self.assertEqual(made, states.hull_of(definition, all_states))
                self.assertEqual((one, other), kept)
                self.assertOwn(made, one, other)


class TestMet(OwnCase):
    def test_bounds(self):
        one, other = box((0, 3), (1, 1), (0, 2, (4, 5)), -1), box((2, 5), (-4, 2), (1, 1, (-2, 4)), -3)
        both = box((2, 3), (1, 1), (1, 1, (4, 4)), -3)
        self.assertEqual(met(one, other), both)
        self.assertEqual(met(one=other, other=one), both)
        self.assertEqual(met(one, shuffled(other)), both)

    def test_nothing(self):
        one = box((0, 3), (1, 1), (0, 2, (4, 5)), -1)
        for parts in ((None, None), (one, None), (None, one)):
            self.assertIsNone(met(*parts))
        self.assertEqual(met(one, one), one)
        self.assertOwn(met(one, one), one)

    def test_what_no_state_lies_in_is_told_bound_by_bound(self):
        one, other = box((0, 1), (0, 1), (0, 1, (0, 1)), 5), box((2, 3), (3, 4), (4, 5, (2, 3)), -5)
        both = box((2, 1), (3, 1), (4, 1, None), -5)
        self.assertEqual(met(one, other), both)
        self.assertEqual(met(other, one), both)

    def test_cells(self):
        for cells, others, both in (((0, 2), (2, 4), (2, 2)), ((0, 2), (3, 4), None), ((0, 2), None, None),
                                    (None, None, None), ((2, 1), (0, 3), None), ((0, 5), (1, 4), (1, 4))):
            one, other = box(a=(0, 3, cells)), box(a=(0, 3, others))
            self.assertEqual(met(one, other)[1]["a"], (0, 3, both))
            self.assertEqual(met(other, one)[1]["a"], (0, 3, both))

    def test_just_the_states_of_both(self):
        chance = random.Random(3)
        for definition, width in FEW:
            for _ in range(30):
                one, other = (states.odd_box(chance, definition, width) for _ in range(2))
                kept = copy.deepcopy((one, other))
                made = met(one, other)
                both = [state for state in states.states_in(one, width) if states.in_box(other, state)]
                self.assertEqual(states.states_in(made, width), both)
                self.assertEqual((one, other), kept)
                self.assertOwn(made, one, other)


class TestTight(OwnCase):
    def test_words_and_lengths(self):
        self.assertEqual(tight(box((-9, 99), (-10 ** 59, 3), (-4, 8, (-7, 10 ** 59)), 10 ** 59), width=5),
                         box((-5, 5), (-5, 3), (0, 5, (-5, 5)), 3))
        self.assertEqual(tight(box=box((-9, 99), (2, 8), (4, 8, (5, 7)), 8), width=5), box((-5, 5), (2, 5), (4, 5, (5, 5)), 1))

    def test_nothing(self):
        for one in (box(x=(1, 0)), box(x=(6, 9)), box(x=(-9, -6)), box(p=(3, 2)), box(a=(2, 1, (0, 0)), room=5),
                    box(a=(6, 9, (0, 0))), box(a=(-3, -1, (0, 0))), box(a=(-3, -1, None)), box(room=-1),
                    box(p=(4, 5), a=(0, 3, (0, 0)), room=0), box(a=(1, 3, None)), box(a=(1, 3, (2, 1))),
                    box(a=(1, 3, (6, 7))), box(a=(1, 3, (-7, -6)))):
            self.assertIsNone(tight(one, width=5), one)
        self.assertIsNone(tight(None, width=5))

    def test_cells_and_lengths_together(self):
        for a in ((0, 3, None), (0, 3, (2, 1)), (0, 3, (6, 7)), (-2, 0, (0, 1)), (0, 0, (0, 1)), (-1, 9, None)):
            self.assertEqual(tight(box(a=a), width=5), box(a=(0, 0, None)))

    def test_fingers_rooms_and_lengths_together(self):
        self.assertEqual(tight(box((0, 0), (0, 5), (0, 3, (1, 1)), -1), width=5), box((0, 0), (0, 2), (1, 3, (1, 1)), -1))
        self.assertEqual(tight(box((0, 0), (2, 5), (0, 5, (1, 1)), 1), width=5), box((0, 0), (2, 5), (1, 5, (1, 1)), 1))
        self.assertEqual(tight(box((0, 0), (2, 3), (2, 5, (1, 1)), 9), width=5), box((0, 0), (2, 3), (2, 5, (1, 1)), 1))
        two = ({"p": (1, 5), "q": (-5, 4)}, {"a": (0, 5, (0, 0)), "b": (0, 3, (0, 0))},
               {("p", "a"): -2, ("p", "b"): 1, ("q", "a"): 9, ("q", "b"): -1})
        self.assertEqual(tight(two, width=5),
                         ({"p": (1, 3), "q": (-5, 2)}, {"a": (3, 5, (0, 0)), "b": (0, 3, (0, 0))},
                          {("p", "a"): -2, ("p", "b"): 1, ("q", "a"): -1, ("q", "b"): -1}))

    def test_against_all_states(self):
        chance = random.Random(4)
        for definition, width in FEW:
            for _ in range(120):
                one = states.odd_box(chance, definition, width)
                kept = copy.deepcopy(one)
                made = tight(one, width=width)
                self.assertEqual(made, states.hull_of(definition, states.states_in(one, width)))
                self.assertEqual(one, kept)
                self.assertOwn(made, one)
                self.assertEqual(tight(made, width=width) if made else None, made)

    def test_all_boxes_of_one_finger_and_one_row(self):
        definition = ("f", (), ("p",), ("a",), ((0, ("back", "p")),))
        ends = [(-2, 2), (-1, 1), (0, 1), (-1, 0), (1, 1), (0, 0), (-1, -1), (1, 0), (2, 3), (-3, -2)]
        lengths = [(0, 0), (0, 1), (1, 1), (-1, 2), (1, 0), (2, 2), (-1, -1)]
        for p, length, cells, room in itertools.product(ends, lengths, [None, *ends], range(-3, 4)):
            one = ({"p": p}, {"a": (*length, cells)}, {("p", "a"): room})
            self.assertEqual(tight(one, width=1), states.hull_of(definition, states.states_in(one, 1)), one)

    def test_greatest_width(self):
        one = ({"p": (-99, 99), "q": (7, 20)}, {"a": (3, 99, (-40, 30))}, {("p", "a"): -5, ("q", "a"): 99})
        self.assertEqual(tight(one, width=31),
                         ({"p": (-31, 26), "q": (7, 20)}, {"a": (3, 31, (-31, 30))}, {("p", "a"): -5, ("q", "a"): 17}))


class TestWithin(OwnCase):
    def test_each_bound(self):
        one = box((-2, 3), (-1, 4), (2, 4, (-3, 1)), 1)
        self.assertIs(within(one, one), True)
        self.assertTrue(within(one=one, other=box((-3, 4), (-2, 5), (1, 5, (-4, 2)), 2)))
        for other in (box((-1, 3), (-1, 4), (2, 4, (-3, 1)), 1), box((-2, 2), (-1, 4), (2, 4, (-3, 1)), 1),
                      box((-2, 3), (0, 4), (2, 4, (-3, 1)), 1), box((-2, 3), (-1, 3), (2, 4, (-3, 1)), 1),
                      box((-2, 3), (-1, 4), (3, 4, (-3, 1)), 1), box((-2, 3), (-1, 4), (2, 3, (-3, 1)), 1),
                      box((-2, 3), (-1, 4), (2, 4, (-2, 1)), 1), box((-2, 3), (-1, 4), (2, 4, (-3, 0)), 1),
                      box((-2, 3), (-1, 4), (2, 4, (-3, 1)), 0), box((-2, 3), (-1, 4), (2, 4, None), 1)):
            self.assertIs(within(one, other), False, other)

    def test_nothing(self):
        one = box()
        self.assertIs(within(None, None), True)
        self.assertIs(within(None, one), True)
        self.assertIs(within(one, None), False)
        self.assertTrue(within(None, box(x=(1, 0))))

    def test_no_cells(self):
        self.assertTrue(within(box(), box(a=(0, 0, None))))
        self.assertTrue(within(box(), box(a=(0, 3, None))))
        self.assertTrue(within(box(), box(a=(0, 3, (2, 1)))))
        self.assertTrue(within(box(), box(a=(0, 3, (1, 2)))))

    def test_against_all_states(self):
        chance = random.Random(5)
        so = 0
        for definition, width in FEW:
            for _ in range(80):
                one = tight(states.odd_box(chance, definition, width), width=width)
                other = states.odd_box(chance, definition, width)
                for other in (other, tight(other, width=width), met(one, other), hull(one, other)):
                    kept = copy.deepcopy((one, other))
                    inside = one is None or (other is not None and all(
                        states.in_box(other, state) for state in states.states_in(one, width)))
                    self.assertIs(within(one, other), inside)
                    self.assertEqual((one, other), kept)
                    so += inside and one is not None
        self.assertGreater(so, 300)


class TestGreatPrograms(OwnCase):
    def test_states_of_runs(self):
        for seed in range(60):
            sample = made_program(seed) if seed >= len(SAMPLES) else SAMPLES[seed]
            for (name, _), state in trace(sample, (3, 1, 2, 3, 4, 5)):
                one = box_of(sample, name, state)
                self.assertEqual(one, states.hull_of(def_at(sample, name), [state]))
                self.assertTrue(lies(one, state))
                self.assertEqual(tight(one, width=sample[0]), one)
                begun = box_of(sample, name, beginning(sample, name))
                self.assertEqual(hull(one, begun), states.hull_of(def_at(sample, name), [state, beginning(sample, name)]))
                self.assertEqual(within(one, begun), lies(begun, state))


if __name__ == "__main__":
    unittest.main()
