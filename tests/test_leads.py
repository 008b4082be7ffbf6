"""Where boxes lead: by one step, behind a call, and which words go back (point 13)."""

import copy
import itertools
import random
import unittest

import states
from cases import OwnCase
from samples import PLAIN_THREE, alone, made_program
from withinall.boxes import box_of, hull, met, tight, within
from withinall.leads import backs, goes_behind, leads
from withinall.programs import act_at, def_at, is_program, next_place, places_of
from withinall.runs import behind, one_step

AT = ("main", 5)
BEHIND = ("main", 7)

# Fingers and rows that stand by each act, and the width.
SHAPES = ((("p", "q"), ("a",), 1), (("p", "q", "r"), ("a", "b"), 1), (("p", "q"), ("a",), 2))


def standing(act, fingers, rows, width):
    """A program in whose main the act stands at 5, with something ahead of it and behind it."""
    steps = ((2, ("tell", "x")), (5, act), (7, ("back", "x")))
    return (width, (("main", (), fingers, rows, steps),))


def acts_of_numbers(width):
    """Acts but tests, get, put and row: each by unlike names, by one name twice and by one thrice."""
    for word in states.words(width):
        yield from [("set", "x", word), ("set", "p", word)]
        yield from [("add", *names, word) for names in (("x", "y"), ("x", "x"), ("x", "p"), ("p", "q"), ("p", "p"))]
    for kind in PLAIN_THREE:
        yield from [(kind, "x", *names) for names in (("y", "z"), ("x", "y"), ("y", "x"), ("y", "y"), ("x", "x"))]
    yield from [("mid", "x", *names) for names in (
        ("y", "z"), ("x", "y"), ("y", "x"), ("y", "y"), ("x", "x"), ("p", "q"), ("p", "y"), ("y", "p"), ("x", "p"),
        ("p", "p"))]
    yield from [("mid", "p", *names) for names in (("p", "q"), ("q", "p"), ("q", "q"), ("p", "p"))]
    for least, greatest in itertools.combinations_with_replacement(states.words(width), 2):
        yield ("ask", "x", least, greatest)
    yield from [("tell", "x"), ("tell", "p")]


ACTS_OF_ROWS = (
    ("row", "a", "x"), ("row", "a", "p"), ("get", "x", "a", "y"), ("get", "x", "a", "x"), ("get", "x", "a", "p"),
    ("put", "a", "x", "y"), ("put", "a", "x", "x"), ("put", "a", "p", "x"), ("put", "a", "x", "p"),
    ("put", "a", "p", "p"), ("put", "a", "p", "q"), ("length", "x", "a"), ("length", "p", "a"),
)

SIDES = (("x", "y"), ("x", "x"), ("x", "p"), ("p", "x"), ("p", "p"), ("p", "q"), ("q", "p"))


def sides(width):
    """The sides of tests: two numbers, a number and a word, two words."""
    yield from SIDES
    for word in states.words(width):
        yield from [("x", word), (word, "x"), ("p", word), (word, "p"), (word, word), (word, 0), (0, word)]


def box(x=(0, 0), y=(0, 0), p=(0, 0), q=(0, 0), a=(0, 0, None), rooms=(9, 9)):
    """A box of a def of two plain numbers, two fingers and a row."""
    return ({"x": x, "y": y, "p": p, "q": q}, {"a": a}, {("p", "a"): rooms[0], ("q", "a"): rooms[1]})


class LeadsCase(OwnCase):
    def compare(self, program, place, one):
        """What is told of the box is what its states have, gone through one by one."""
        kept = copy.deepcopy((program, place, one))
        told = leads(program, place, one)
        self.assertEqual(told, states.led_from(program, place, one), kept)
        self.assertEqual((program, place, one), kept)
        self.assertOwn([worth for _, worth in told], one)
        return told

    def boxes_for(self, program, chance, many):
        """Some boxes of main, three of four of them with states."""
        definition = def_at(program, "main")
        made = []
        while len(made) < many:
            one = states.odd_box(chance, definition, program[0])
            if len(made) % 4 == 3 or tight(one, width=program[0]) is not None:
                made.append(one)
        return made

    def compare_act(self, act, shapes=SHAPES, many=4):
        for fingers, rows, width in shapes:
            program = standing(act, fingers, rows, width)
            self.assertTrue(is_program(program), act)
            for one in self.boxes_for(program, random.Random(repr(act)), many):
                self.compare(program, AT, one)


class TestByHand(LeadsCase):
    ONE = box((-9, 9), (0, 9), (0, 9), (2, 6), (0, 5, (-3, 4)))

    def after(self, act, one, width=9):
        """The one box that the act leads to, None where it leads nowhere."""
        told = leads(standing(act, ("p", "q"), ("a",), width), AT, one)
        self.assertIn([place for place, _ in told], ([], [BEHIND]))
        return told[0][1] if told else None

    def test_what_the_document_names(self):
        definition = ("main", (), (), (), ((0, ("times", "x", "y", "z")), (1, ("back", "x"))))
        one = ({"x": (0, 0), "y": (2, 9), "z": (-9, 9)}, {}, {})
        self.assertEqual(leads((9, (definition,)), ("main", 0), one),
                         [(("main", 1), ({"x": (-9, 9), "y": (2, 9), "z": (-4, 4)}, {}, {}))])
        self.assertEqual(self.after(("get", "x", "a", "p"), box(p=(-2, 7), q=(0, 0), a=(0, 5, (-3, 4)))),
                         box((-3, 4), p=(0, 4), a=(1, 5, (-3, 4)), rooms=(-1, -1)))
        self.assertEqual(self.after(("get", "x", "a", "p"), box(p=(3, 7), q=(0, 0), a=(0, 5, (-3, 4)))),
                         box((-3, 4), p=(3, 4), a=(4, 5, (-3, 4)), rooms=(-1, -4)))
        self.assertEqual(self.after(("put", "a", "p", "x"), box((6, 7), p=(-2, 7), a=(0, 1, (-3, 4)))),
                         box((6, 7), p=(0, 0), a=(1, 1, (6, 7)), rooms=(-1, -1)))
        self.assertEqual(self.after(("put", "a", "p", "x"), box((6, 7), p=(-2, 7), a=(0, 2, (-3, 4)))),
                         box((6, 7), p=(0, 1), a=(1, 2, (-3, 7)), rooms=(-1, -1)))
        self.assertEqual(self.after(("check", "p", "<", "q"), box(p=(0, 9), q=(2, 6), a=(0, 9, (0, 0)), rooms=(9, -1))),
                         box(p=(0, 5), q=(2, 6), a=(3, 9, (0, 0)), rooms=(-2, -1)))

    def test_words_and_numbers(self):
        tight_one = tight(self.ONE, width=9)
        numbers, rows, rooms = tight_one
        self.assertEqual(self.after(("set", "x", 4), self.ONE), ({**numbers, "x": (4, 4)}, rows, rooms))
        self.assertEqual(self.after(("set", "q", 4), box(q=(2, 6), a=(3, 5, (0, 0)))),
                         box(q=(4, 4), a=(3, 5, (0, 0)), rooms=(-3, 1)))
        self.assertEqual(self.after(("add", "x", "y", 2), self.ONE)[0], {**numbers, "x": (2, 9), "y": (0, 7)})
        self.assertEqual(self.after(("add", "p", "q", 2), self.ONE)[2], {("p", "a"): 8, ("q", "a"): 6})
        self.assertEqual(self.after(("mid", "x", "x", "q"), self.ONE)[0], {**numbers, "x": (-4, 7)})
        self.assertEqual(self.after(("mid", "p", "p", "q"), box(p=(0, 9), q=(2, 6), a=(0, 9, (0, 0)), rooms=(-1, 2))),
                         box(p=(1, 7), q=(2, 6), a=(1, 9, (0, 0)), rooms=(0, 2)))
        self.assertEqual(self.after(("ask", "x", -2, 3), self.ONE)[0]["x"], (-2, 3))
        self.assertEqual(self.after(("tell", "x"), self.ONE), tight_one)

    def test_rows(self):
        self.assertEqual(self.after(("row", "a", "p"), box(p=(-3, 7), q=(2, 4), a=(1, 2, (5, 6)))),
                         box(p=(0, 7), q=(2, 4), a=(0, 7, (0, 0)), rooms=(0, 4)))
        self.assertEqual(self.after(("row", "a", "x"), box((-3, 0), q=(2, 4), a=(1, 2, (5, 6)))),
                         box(q=(2, 4), a=(0, 0, None), rooms=(0, 4)))
        self.assertEqual(self.after(("length", "p", "a"), box(q=(2, 4), a=(1, 5, (5, 6)), rooms=(5, -1))),
                         box(p=(3, 5), q=(2, 4), a=(3, 5, (5, 6)), rooms=(0, -1)))

    def test_nowhere(self):
        for act, one in ((("add", "x", "y", 3), box(y=(7, 9))), (("plus", "x", "x", "y"), box((5, 9), (5, 9))),
                         (("over", "x", "x", "y"), box()), (("rest", "x", "y", "y"), box((1, 2))),
                         (("times", "x", "y", "y"), box(y=(4, 9))), (("row", "a", "x"), box((-9, -1))),
                         (("get", "x", "a", "p"), box()), (("put", "a", "p", "x"), box(p=(5, 9), a=(0, 5, (1, 2)))),
                         (("get", "x", "a", "p"), box(p=(-9, -1), a=(3, 3, (1, 2)))), (("check", "x", "<", "x"), box()),
                         (("check", 3, "<=", 2), box()), (("check", "p", "<", "q"), box(p=(3, 4), q=(1, 3))),
                         (("back", "x"), box()), (("tell", "x"), box((1, 0))), (("tell", "x"), box((10, 11)))):
            self.assertIsNone(self.after(act, one), act)

    def test_tests(self):
        one = box((0, 9), (3, 5))
        for sign, other, low, high in (("<", "<=", (0, 4), (5, 9)), ("<=", "<", (0, 5), (6, 9))):
            program = alone(("if", "x", sign, "y", 9), ("tell", "y"), *[("tell", "q")] * 7, width=9, rows=("a",))
            told = leads(program, ("main", 0), one)
            self.assertEqual([place for place, _ in told], [("main", 1), ("main", 9)])
            self.assertEqual(told[1][1][0]["x"], low)
            y = max(3, low[0])
            self.assertEqual(told[1][1][0]["y"], (y, 5))
            self.assertEqual(leads(alone(("check", "y", other, "x"), width=9, rows=("a",)), ("main", 0), one)[0][1],
                             told[0][1])

    def test_keywords(self):
        self.assertEqual(leads(program=alone(rows=("a",)), place=("main", 0), box=box()), [])


class TestEachAct(LeadsCase):
    def test_of_numbers(self):
        for shape in SHAPES:
            for act in acts_of_numbers(shape[2]):
                self.compare_act(act, (shape,))

    def test_of_three_fingers(self):
        for names in itertools.product(("p", "q", "r"), repeat=3):
            self.compare_act(("mid", *names), SHAPES[1:2], many=8)

    def test_of_rows(self):
        for act in ACTS_OF_ROWS:
            self.compare_act(act, many=20)
        for act in ACTS_OF_ROWS:
            self.compare_act(act, ((("p",) if "q" not in act else ("p", "q"), ("a",), 3 if "y" not in act else 2),), many=8)

    def test_checks(self):
        for shape in SHAPES:
            for (one, other), sign in itertools.product(sides(shape[2]), ("<", "<=")):
                self.compare_act(("check", one, sign, other), (shape,), many=3)

    def test_ifs(self):
        for (one, other), sign, label in itertools.product(sides(1), ("<", "<="), (2, 5, 7)):
            self.compare_act(("if", one, sign, other, label), SHAPES[:2], many=2)
        for (one, other), sign in itertools.product(SIDES, ("<", "<=")):
            self.compare_act(("if", one, sign, other, 2), SHAPES[2:], many=6)

    def test_goes_and_backs(self):
        for act in (("go", 2), ("go", 5), ("go", 7), ("back", "x"), ("back", "p")):
            self.compare_act(act)

    def test_without_fingers_and_rows(self):
        for fingers, rows in ((("p", "q"), ()), ((), ("a",)), ((), ())):
            for act in [*acts_of_numbers(1), *ACTS_OF_ROWS, *(("check", *two) for two in (("x", "<", "y"), ("p", "<", "q")))]:
                if ("a" in act) <= bool(rows) and ("p" in act or "q" in act) <= bool(fingers):
                    self.compare_act(act, ((fingers, rows, 1),), many=3)


class TestIf(LeadsCase):
    def test_both_to_the_next_label(self):
        one = box((-3, 3), (-2, 2))
        for test in (("x", "<", "y"), ("x", "<=", 0), ("x", "<", "x"), (1, "<", 0)):
            told = leads(standing(("if", *test, 7), ("p", "q"), ("a",), 3), AT, one)
            self.assertEqual(told, [(BEHIND, tight(one, width=3))])
            self.assertOwn([worth for _, worth in told], one)

    def test_places_rise(self):
        for label, places in ((2, [("main", 2), BEHIND]), (5, [AT, BEHIND]), (7, [BEHIND])):
            told = leads(standing(("if", "x", "<", "y", label), ("p", "q"), ("a",), 3), AT, box((-3, 3)))
            self.assertEqual([place for place, _ in told], places)

    def test_one_way_alone(self):
        for test, label in ((("x", "<", 4), 2), (("x", "<", "x"), 7), (("x", "<=", "x"), 2), ((2, "<=", 2), 2),
                            ((2, "<", 2), 7), (("y", "<", "x"), 7), (("x", "<=", "y"), 2)):
            told = leads(standing(("if", *test, 2), ("p", "q"), ("a",), 9), AT, box((0, 3), (3, 5)))
            self.assertEqual(told, [(("main", label), tight(box((0, 3), (3, 5)), width=9))], test)


def calling(params, given, callee, width=1, fingers=("p", "q"), rows=("a", "b")):
    """A program whose main calls f, given these."""
    return (width, (("main", (), fingers, rows, ((2, ("tell", "x")), (5, ("call", "x", "f", given)), (7, ("back", "y")))),
                    ("f", params, *callee, ((3, ("tell", "u")), (4, ("back", "v"))))))


class TestCalls(LeadsCase):
    def test_by_hand(self):
        program = calling(("m", "v", "i"), ("a", "q", "p"), (("i", "j"), ("m", "n")), 9, rows=("a",))
        one = box((1, 2), (3, 4), (0, 5), (2, 6), (1, 4, (-3, 4)), (-1, 0))
        self.assertEqual(leads(program, AT, one), [(("f", 3), (
            {"i": (0, 3), "j": (0, 0), "u": (0, 0), "v": (2, 4)},
            {"m": (2, 4, (-3, 4)), "n": (0, 0, None)},
            {("i", "m"): -1, ("j", "m"): -2, ("i", "n"): 3, ("j", "n"): 0},
        ))])

    def test_rows_and_fingers_given(self):
        """Each of the callee's may be given or not, and one name for two of them."""
        callee = (("i", "j"), ("m", "n"))
        for params in (("i", "m"), ("m", "i"), ("i",), ("m",), ("i", "j", "m", "n"), ("n", "u", "j"), ()):
            offers = [("a", "b") if param in "mn" else ("p", "q") if param in "ij" else ("x", "p") for param in params]
            for given in itertools.product(*offers):
                program = calling(params, given, callee)
                self.assertTrue(is_program(program))
                for one in self.boxes_for(program, random.Random(repr((params, given))), 3):
                    self.compare(program, AT, one)

    def test_one_row_given_twice_at_greater_width(self):
        for given in (("a", "a", "p", "p", "p"), ("a", "a", "p", "x", "x")):
            fingers = ("i", "j") if given[3] == "p" else ("i",)
            program = calling(("m", "n", "i", "j", "u"), given, (fingers, ("m", "n")), 2, ("p",), ("a",))
            for one in self.boxes_for(program, random.Random(7), 8):
                self.compare(program, AT, one)

    def test_a_def_that_calls_itself(self):
        program = (2, (("main", (), ("p",), ("a",), ((0, ("call", "x", "main", ())), (1, ("back", "x")))),))
        for one in self.boxes_for(program, random.Random(8), 8):
            told = self.compare(program, ("main", 0), one)
            if told:
                self.assertEqual(told, [(("main", 0), ({"x": (0, 0), "p": (0, 0)}, {"a": (0, 0, None)}, {("p", "a"): 0}))])

    def test_nothing_begun(self):
        program = calling(("u",), ("x",), ((), ()), 2)
        for one in self.boxes_for(program, random.Random(9), 60):
            if tight(one, width=2) is None:
                self.assertEqual(leads(program, AT, one), [])
                self.assertEqual(goes_behind(program, AT, one, (0, 1)), [])


class TestGoesBehind(LeadsCase):
    PROGRAM = calling((), (), ((), ()), 2, ("p",), ("a",))

    def test_by_hand(self):
        one = ({"x": (-2, 2), "y": (0, 1), "p": (-1, 2)}, {"a": (0, 1, (2, 9))}, {("p", "a"): 0})
        kept = copy.deepcopy(one)
        after = ({"x": (0, 1), "y": (0, 1), "p": (-1, 1)}, {"a": (0, 1, (2, 2))}, {("p", "a"): 0})
        self.assertEqual(goes_behind(self.PROGRAM, AT, one, (0, 1)), [(BEHIND, after)])
        self.assertEqual(goes_behind(program=self.PROGRAM, place=AT, box=one, back=(0, 1)), [(BEHIND, after)])
        self.assertEqual(one, kept)

    def test_stretches(self):
        """Some words, one, all, some beyond these, all beyond, turned about."""
        chance = random.Random(10)
        ends = (-10 ** 59, -4, -3, -2, -1, 0, 1, 2, 3, 4, 10 ** 59)
        for back in itertools.product(ends, repeat=2):
            for one in self.boxes_for(self.PROGRAM, chance, 2):
                kept = copy.deepcopy(one)
                told = goes_behind(self.PROGRAM, AT, one, back)
                self.assertEqual(told, states.led_behind(self.PROGRAM, AT, one, back))
                self.assertEqual(one, kept)
                self.assertOwn([worth for _, worth in told], one)

    def test_no_word(self):
        one = ({"x": (0, 0), "y": (0, 0), "p": (0, 0)}, {"a": (0, 0, None)}, {("p", "a"): 0})
        for back in ((1, 0), (2, -2), (3, 9), (-9, -3), (10 ** 59, -10 ** 59)):
            self.assertEqual(goes_behind(self.PROGRAM, AT, one, back), [])

    def test_what_is_given_stays(self):
        """The number that takes the word may be one that was given."""
        program = calling(("u",), ("x",), ((), ()), 2, ("p",), ("a",))
        for one in self.boxes_for(program, random.Random(11), 8):
            self.compare(program, AT, one)
            self.assertEqual(goes_behind(program, AT, one, (1, 2)), states.led_behind(program, AT, one, (1, 2)))


class TestBacks(LeadsCase):
    def test_by_hand(self):
        program = standing(("back", "p"), ("p", "q"), ("a",), 9)
        self.assertEqual(backs(program, AT, box(p=(-3, 7), a=(0, 4, (0, 0)), rooms=(1, 9))), (-3, 5))
        self.assertEqual(backs(program=program, place=AT, box=box(p=(-99, 99))), (-9, 9))
        self.assertEqual(backs(program, BEHIND, box(x=(4, 4))), (4, 4))
        for one in (box(p=(10, 12)), box(x=(1, 0)), box(a=(1, 1, None)), box(p=(3, 4), rooms=(2, 9))):
            self.assertIsNone(backs(program, AT, one))

    def test_against_all_states(self):
        for name, shape in itertools.product(("x", "p", "q"), SHAPES):
            program = standing(("back", name), *shape)
            for one in self.boxes_for(program, random.Random(name), 20):
                kept = copy.deepcopy(one)
                self.assertEqual(backs(program, AT, one), states.words_back(program, AT, one))
                self.assertEqual(one, kept)
                self.assertEqual(leads(program, AT, one), [])


class TestGreatPrograms(LeadsCase):
    """Programs of any width, whose boxes have too many states to go through all."""

    def wide_box(self, chance, program, place):
        """Some tight box of the place's def, of some states at least."""
        width = program[0]
        found = None
        while found is None:
            found = tight(states.odd_box(chance, def_at(program, place[0]), width), width=width)
        return found

    def test_one_state_alone(self):
        for seed in range(120):
            program = made_program(seed)
            chance = random.Random(seed)
            for place in places_of(program):
                state = states.drawn_state(chance, self.wide_box(chance, program, place))
                # The box of a row of words that aren't alike has other states, too.
                for row in def_at(program, place[0])[3]:
                    state[row] = state[row][:1] * len(state[row])
                one = box_of(program, place[0], state)
                self.assertEqual(leads(program, place, one), self.after_state(program, place, state))
                act = act_at(program, place)
                if act[0] == "call":
                    behinds = [(next_place(program, place), box_of(program, place[0], behind(program, place, state, 1)[2]))]
                    self.assertEqual(goes_behind(program, place, one, (1, 1)), behinds)
                if act[0] == "back":
                    self.assertEqual(backs(program, place, one), (state[act[1]],) * 2)

    def after_state(self, program, place, state):
        """Where the one state leads, with all words."""
        found = {}
        for word in states.words(program[0]):
            made = one_step(program, place, state, word=word)
            if made[0] in ("on", "call"):
                label = made[1] if made[0] == "on" else def_at(program, made[1])[4][0][0]
                name = place[0] if made[0] == "on" else made[1]
                found[name, label] = hull(found.get((name, label)), box_of(program, name, made[2]))
        return sorted(found.items(), key=lambda part: part[0])

    def test_parted_in_two(self):
        """Where the parts of a box lead together is where the whole leads."""
        for seed in range(60):
            program = made_program(seed)
            chance = random.Random(seed)
            for place in places_of(program):
                whole = self.wide_box(chance, program, place)
                together = {}
                for part in self.parted(chance, whole):
                    for other, found in leads(program, place, part):
                        together[other] = hull(together.get(other), found)
                self.assertEqual(leads(program, place, whole), sorted(together.items(), key=lambda part: part[0]))

    def parted(self, chance, whole):
        """The box in two, at some word of some number or some length of some row."""
        names = sorted(whole[0]) + sorted(whole[1])
        if not names:
            return [whole]
        name = chance.choice(names)
        at = 0 if name in whole[0] else 1
        least, greatest, *cells = whole[at][name]
        word = chance.randint(least, greatest)
        made = []
        for ends in ((least, word), (word + 1, greatest)):
            part = list(copy.deepcopy(whole))
            part[at][name] = (*ends, *cells)
            made.append(tuple(part))
        return made

    def test_drawn_states_and_lesser_boxes(self):
        for seed in range(60):
            program = made_program(seed)
            chance = random.Random(seed)
            for place in places_of(program):
                whole = self.wide_box(chance, program, place)
                told = dict(leads(program, place, whole))
                lesser = tight(met(whole, self.wide_box(chance, program, place)), width=program[0])
                for other, found in leads(program, place, lesser) if lesser else []:
                    self.assertTrue(within(found, told.get(other)))
                for _ in range(5):
                    state = states.drawn_state(chance, whole)
                    self.assertTrue(states.in_box(whole, state))
                    word = chance.randint(-program[0], program[0])
                    made = one_step(program, place, state, word=word)
                    if made[0] == "on":
                        self.assertTrue(states.in_box(told[place[0], made[1]], made[2]))


if __name__ == "__main__":
    unittest.main()
