"""What is led out of tables, and what is a paper of it (point 14)."""

import copy
import random
import unittest

import judging
import states
from cases import OwnCase
from samples import BACKWARDS, DEEP, EVERY, FACTORIAL, SAMPLES, THINGS, alone, great_program, made_program, small_program
from samples import with_part
from test_least import COUNT, HALVES, RING
from withinall.boxes import box_of, hull, met, tight, within
from withinall.leads import backs, goes_behind, leads
from withinall.least import least
from withinall.papers import is_paper, led_out
from withinall.programs import act_at, def_at, first_place, numbers_of, places_of
from withinall.runs import beginning

# Two defs; the callee goes back by two backs.
TWO = (2, (
    ("f", ("u", "a"), ("p",), ("a",), (
        (0, ("if", "u", "<", 0, 3)),
        (1, ("length", "p", "a")),
        (2, ("back", "p")),
        (3, ("back", "u")),
    )),
    ("main", (), (), ("b",), (
        (0, ("ask", "x", -1, 1)),
        (1, ("ask", "y", 0, 2)),
        (2, ("row", "b", "y")),
        (3, ("call", "y", "f", ("x", "b"))),
        (4, ("back", "y")),
    )),
))


def whole_table(program):
    """The table in which all states lie."""
    width = program[0]
    table = {}
    for place in places_of(program):
        one = def_at(program, place[0])
        table[place] = (
            {name: (-width, width) for name in numbers_of(one)},
            {row: (0, width, (-width, width)) for row in one[3]},
            {(finger, row): width for finger in one[2] for row in one[3]},
        )
    return table


def other_bounds(table, place):
    """The table with one bound of the box at the place narrower by one or wider by one, for each bound and both."""
    numbers, rows, rooms = table[place]
    for step in (-1, 1):
        for name, (low, high) in numbers.items():
            yield {**table, place: ({**numbers, name: (low + step, high)}, rows, rooms)}
            yield {**table, place: ({**numbers, name: (low, high + step)}, rows, rooms)}
        for row, (low, high, cells) in rows.items():
            parts = [(low + step, high, cells), (low, high + step, cells), (low, high, None)]
            if cells is not None:
                parts += [(low, high, (cells[0] + step, cells[1])), (low, high, (cells[0], cells[1] + step))]
            for part in parts:
                yield {**table, place: (numbers, {**rows, row: part}, rooms)}
        for pair, room in rooms.items():
            yield {**table, place: (numbers, rows, {**rooms, pair: room + step})}


class PapersCase(OwnCase):
    def look(self, program, table, held=None):
        """What is told of the table is a paper, or None just where it holds."""
        kept = copy.deepcopy((program, table))
        paper = led_out(program, table)
        self.assertEqual((program, table), kept)
        if held is not None:
            self.assertEqual(paper is None, held, (table, paper))
        if paper is not None:
            self.assertIsInstance(paper, tuple)
            self.assertTrue(judging.is_paper(program, table, paper), (table, paper))
            self.assertIs(is_paper(program, table, paper), True)
            self.assertOwn(paper, table)
        return paper

    def compare(self, program, table):
        """By all states that lie in the table."""
        return self.look(program, table, judging.holds(program, table))


class TestLedOut(PapersCase):
    def test_least_tables_hold(self):
        for program in (*SAMPLES, COUNT, HALVES, RING, TWO):
            self.assertIsNone(led_out(program, least(program)))
        for seed in range(60):
            program = made_program(seed)
            self.assertIsNone(led_out(program=program, table=least(program)))
            self.assertIsNone(led_out(program, whole_table(program)))
            program = great_program(seed)
            self.assertIsNone(led_out(program, least(program)))

    def test_the_beginning(self):
        for program in (*SAMPLES, TWO, RING):
            main = first_place(program, "main")
            nothing = dict.fromkeys(places_of(program))
            self.assertEqual(led_out(program, nothing), ("begins",))
            self.assertEqual(led_out(program, {**least(program), main: None}), ("begins",))
            self.assertEqual(led_out(program, {**whole_table(program), main: None}), ("begins",))
        table = least(COUNT)
        self.assertEqual(led_out(COUNT, {**table, ("main", 0): ({"n": (1, 5)}, {}, {})}), ("begins",))

    def test_by_hand(self):
        table = least(COUNT)
        box = ({"n": (0, 4)}, {}, {})
        paper = self.look(COUNT, {**table, ("main", 0): box}, False)
        self.assertEqual(paper[:3], ("out", ("main", 2), {"n": 5}))
        paper = self.look(COUNT, {**table, ("main", 3): None}, False)
        self.assertEqual(paper[:3], ("out", ("main", 0), {"n": 5}))
        paper = self.look(COUNT, {**table, ("main", 3): ({"n": (6, 9)}, {}, {})}, False)
        self.assertEqual(paper[:3], ("out", ("main", 0), {"n": 5}))

    def test_ask_by_its_word(self):
        """The word of a paper is one that is brought out of the table."""
        program = alone(("ask", "x", 1, 3), fingers=(), rows=())
        table = least(program)
        for box, words in ((({"x": (1, 2)}, {}, {}), (-3, 0, 3)), (({"x": (2, 3)}, {}, {}), (-5, -2, 1, 4))):
            paper = self.look(program, {**table, ("main", 1): box}, False)
            self.assertEqual(paper[:3], ("out", ("main", 0), {"x": 0}))
            self.assertIn(paper[3], words)
            for word in range(-5, 6):
                so = is_paper(program, {**table, ("main", 1): box}, (*paper[:3], word))
                self.assertIs(so, word in words)

    def test_calls_and_backs(self):
        table = least(TWO)
        paper = self.look(TWO, {**table, ("f", 0): None}, False)
        self.assertEqual(paper[:2], ("out", ("main", 3)))
        paper = self.look(TWO, {**table, ("main", 4): None}, False)
        self.assertEqual(paper[:2], ("behind", ("main", 3)))
        for numbers, back, word in (({"x": (-1, 1), "y": (0, 2)}, ("f", 3), -1), ({"x": (-1, 1), "y": (-1, 1)}, ("f", 2), 2)):
            paper = self.look(TWO, {**table, ("main", 4): (numbers, *table["main", 4][1:])}, False)
            self.assertEqual((paper[0], paper[1], paper[3]), ("behind", ("main", 3), back))
            self.assertEqual(paper[4]["u" if word < 0 else "p"], word)
        # What the callee never goes back from leads nowhere.
        still = {**table, ("f", 2): None, ("f", 3): None, ("main", 4): None}
        self.assertEqual(self.look(TWO, still, False)[:2], ("out", ("f", 0)))

    def test_each_bound_of_the_least(self):
        """No bound of the least table may be narrower; one that is wider holds, or leads out elsewhere."""
        for program in (TWO, COUNT, *map(small_program, range(0, 40))):
            table = least(program)
            for place in table:
                if table[place] is not None:
                    self.assertIsNotNone(self.look(program, {**table, place: None}))
                    for other in other_bounds(table, place):
                        if tight(other[place], width=program[0]) != table[place]:
                            self.compare(program, other)

    def test_narrower_ones_never_hold(self):
        chance = random.Random(3)
        for program in (*SAMPLES, HALVES, RING, *map(great_program, range(20))):
            table = least(program)
            come_to = [place for place in table if table[place] is not None]
            for place in chance.sample(come_to, min(15, len(come_to))):
                bounds = list(other_bounds(table, place))
                for other in chance.sample(bounds, min(8, len(bounds))):
                    cut = tight(met(other[place], table[place]), width=program[0])
                    if cut != table[place]:
                        self.look(program, {**table, place: cut}, False)

    def test_odd_tables(self):
        """Tables of anybody: turned bounds, bounds beyond the words, any rooms, cells None beside lengths above 0."""
        held = 0
        for seed in range(200):
            chance = random.Random(seed)
            program = small_program(seed)
            table = least(program) if chance.random() < 0.7 else whole_table(program)
            for _ in range(3):
                place = chance.choice(sorted(table))
                box = states.odd_box(chance, def_at(program, place[0]), program[0])
                if chance.random() < 0.5 and table[place] is not None:
                    box = hull(table[place], box)
                table[place] = None if chance.random() < 0.1 else box
                held += self.compare(program, table) is None
        self.assertGreater(held, 60)

    def test_all_odd(self):
        for seed in range(150):
            chance = random.Random(seed)
            program = small_program(seed)
            table = {place: states.odd_box(chance, def_at(program, place[0]), program[0]) for place in places_of(program)}
            main = first_place(program, "main")
            table[main] = hull(table[main], box_of(program, "main", beginning(program, "main")))
            self.compare(program, table)

    def test_two_that_hold_met(self):
        """What two tables that hold have in common holds."""
        many = 0
        for seed in range(200):
            chance = random.Random(seed)
            program = small_program(seed)
            pair = [table_that_holds(program, chance) for _ in range(2)]
            for table in pair:
                self.assertIsNone(led_out(program, table))
            both = {place: met(pair[0][place], pair[1][place]) for place in pair[0]}
            self.assertIsNone(self.look(program, both, True))
            many += len({str(table) for table in (*pair, both)}) == 3
            for place, box in least(program).items():
                self.assertTrue(box is None or judging.inside(box, both[place]))
        self.assertGreater(many, 20)

    def test_great_odd_tables(self):
        """Of tables of great programs that bear papers a paper is told, whatever act leads out."""
        kinds = set()
        for seed in range(250):
            chance = random.Random(seed)
            program = made_program(seed) if seed % 3 else great_program(seed)
            table = whole_table(program)
            for _ in range(3):
                place = chance.choice(sorted(table))
                table[place] = states.odd_box(chance, def_at(program, place[0]), program[0])
                paper = self.look(program, table)
                if paper is not None and len(paper) > 1:
                    kinds.add(act_at(program, paper[1])[0] + paper[0])
        self.assertGreater(len(kinds), 15)


def table_that_holds(program, chance):
    """A table that holds: the least one made wider here and there until nothing is led out."""
    width = program[0]
    table = least(program)
    for place in chance.sample(sorted(table), min(3, len(table))):
        box = states.odd_box(chance, def_at(program, place[0]), width)
        table[place] = hull(table[place], tight(box, width=width))
    before = None
    while before != table:
        before = dict(table)
        for place in before:
            for other, box in all_led(program, table, place):
                if not within(box, table[other]):
                    table[other] = hull(table[other], box)
    return table


def all_led(program, table, place):
    """All that the table's box at the place leads to, with the words that go back by the table."""
    box = table[place]
    if box is None:
        return []
    found = leads(program, place, box)
    act = act_at(program, place)
    for back in table if act[0] == "call" else ():
        if back[0] == act[2] and act_at(program, back)[0] == "back" and table[back] is not None:
            words = backs(program, back, table[back])
            found += goes_behind(program, place, box, words) if words is not None else []
    return found


class TestIsPaper(PapersCase):
    def setUp(self):
        self.table = least(TWO)
        self.out = {**self.table, ("main", 1): ({"x": (-1, 0), "y": (0, 0)}, {"b": (0, 0, None)}, {})}
        self.calling = {**self.table, ("f", 0): ({"p": (0, 0), "u": (-1, 1)}, {"a": (0, 1, (0, 0))}, {("p", "a"): 0})}
        self.back = {**self.table, ("main", 4): ({"x": (-1, 1), "y": (-1, 1)}, {"b": (0, 2, (0, 0))}, {})}
        self.papers = (
            (self.out, ("out", ("main", 0), {"x": 0, "y": 0, "b": ()}, 1)),
            (self.calling, ("out", ("main", 3), {"x": 1, "y": 2, "b": (0, 0)}, 0)),
            (self.back, ("behind", ("main", 3), {"x": 1, "y": 2, "b": (0,)}, ("f", 2), {"u": 1, "p": 2, "a": (0, 0)})),
        )

    def ask(self, table, thing, so=None):
        """What is told of the thing is what the promise has, and that is this if told."""
        kept = copy.deepcopy((table, thing))
        told = is_paper(TWO, table, thing)
        self.assertEqual((table, thing), kept)
        self.assertIs(told, judging.is_paper(TWO, table, thing), thing)
        if so is not None:
            self.assertIs(told, so, thing)

    def test_three_kinds(self):
        nothing = dict.fromkeys(self.table)
        self.ask(nothing, ("begins",), True)
        self.ask(self.table, ("begins",), False)
        self.assertIs(is_paper(program=TWO, table=nothing, thing=("begins",)), True)
        for table, paper in self.papers:
            self.ask(table, paper, True)
            self.ask(self.table, paper, False)
            for other, _ in self.papers:
                if other is not table:
                    self.ask(other, paper, False)

    def test_any_word_where_nothing_is_asked(self):
        table, paper = self.papers[1]
        for word in (-2, -1, 0, 1, 2):
            self.ask(table, (*paper[:3], word), True)
        for word in (-3, 3, 10 ** 59, True, False, None, "0", (0,), [0]):
            self.ask(table, (*paper[:3], word), False)

    def test_one_part_otherwise(self):
        for table, paper in (*self.papers, (dict.fromkeys(self.table), ("begins",))):
            self.ask(table, list(paper), False)
            self.ask(table, (*paper, 0), False)
            self.ask(table, paper[:-1], False)
            self.ask(table, paper + paper, False)
            self.ask(table, (paper,), False)
            for at in range(len(paper)):
                for thing in (*THINGS, "out", "behind", "begins", *self.table, list(paper), paper):
                    self.ask(table, with_part(paper, (at,), thing))

    def test_states_otherwise(self):
        for table, paper in self.papers:
            for at in (2, 4)[:len(paper) - 3]:
                for state in self.odd_states(paper[at]):
                    self.ask(table, with_part(paper, (at,), state), False)

    def odd_states(self, state):
        """States with a name too few, one too many, and things that are no words or rows."""
        for name, worth in state.items():
            yield {other: state[other] for other in state if other != name}
            for other in ("t", 0, None, (), ("x", 1)):
                yield {**state, other: 0}
                yield {**{each: state[each] for each in state if each != name}, other: worth}
            if isinstance(worth, tuple):
                parts = [list(worth), (0, 0, 0), (3,), (-3,), (True,), (False, 0), ("0",), (None,), ((),), 0, None, "", {}]
            else:
                parts = [3, -3, 10 ** 59, True, False, None, "1", (), (worth,), [worth], {}, {worth: worth}]
            for part in parts:
                yield {**state, name: part}
        yield from (list(state.items()), tuple(state.items()), list(state), None, {})

    def test_places_otherwise(self):
        odd = (("main", 5), ("main", True), ("main", False), ("main", "0"), ("f", 4), ("g", 0), ("main",), ("main", 0, 0),
               ["main", 0], (0, "main"), (("main", 0),), "main", ("main", None), (["main"], 0), ({}, []))
        for table, paper in self.papers:
            for place in odd:
                self.ask(table, with_part(paper, (1,), place), False)
                if len(paper) == 5:
                    self.ask(table, with_part(paper, (3,), place), False)
        # Truths aren't labels, where the label would be one.
        program = alone(("ask", "x", 1, 3), fingers=(), rows=())
        table = {**least(program), ("main", 1): None}
        self.assertIs(is_paper(program, table, ("out", ("main", 0), {"x": 0}, 0)), True)
        self.assertIs(is_paper(program, table, ("out", ("main", False), {"x": 0}, 0)), False)

    def test_backs_and_calls_otherwise(self):
        """The back is one of the callee; where nothing is called, or nothing goes back, there is no such paper."""
        table, paper = self.papers[2]
        for back in (("f", 0), ("f", 1), ("main", 4)):
            self.ask(table, with_part(paper, (3,), back), False)
        self.ask(table, with_part(paper, (3,), ("f", 3)), False)
        state = paper[2]
        self.ask(table, ("behind", ("main", 2), *paper[2:]), False)
        self.ask(table, ("out", ("main", 4), state, 0), False)
        self.ask(dict.fromkeys(self.table), ("out", ("main", 4), state, 0), False)
        # A back of main is none of f, though main may be called, too.
        program = with_part(TWO, (1, 1, 4, 0, 1), ("call", "x", "main", ()))
        whole = {**whole_table(program), ("main", 4): None}
        self.assertTrue(is_paper(program, whole, ("behind", ("main", 3), state, ("f", 2), paper[4])))
        whole = whole_table(program)
        whole["main", 1] = whole["main", 4] = (whole["main", 0][0] | {"x": (2, 2)}, *whole["main", 0][1:])
        made = ("behind", ("main", 0), state, ("main", 4), {**state, "x": 2, "y": 0})
        self.assertTrue(is_paper(program, whole, made))
        self.assertFalse(is_paper(program, whole, with_part(made, (4,), {**state, "x": 2, "y": 2})))
        self.assertFalse(is_paper(program, whole, with_part(made, (4,), state)))
        self.assertFalse(is_paper(program, whole, ("behind", ("main", 3), state, *made[3:])))

    def test_anything(self):
        for table in (self.table, self.out, dict.fromkeys(self.table)):
            for thing in THINGS:
                self.ask(table, thing, False)
                self.ask(table, ("out", thing), False)
                self.ask(table, (thing, thing, thing, thing), False)
                self.ask(table, ("behind", thing, thing, thing, thing), False)

    def test_all_papers_of_small_tables(self):
        """Just those of all single steps are papers that lead out; none is one where the table holds."""
        papers = 0
        for seed in range(150):
            chance = random.Random(seed)
            program = small_program(seed)
            if any(len(one[2]) + len(one[3]) > 2 for one in program[1]):
                continue
            holding = least(program)
            table = dict(holding)
            place = chance.choice([place for place in table if table[place] is not None])
            table[place] = chance.choice([other[place] for other in other_bounds(table, place)])
            for step in judging.all_steps(program, table):
                so = is_paper(program, table, step)
                self.assertIs(so, judging.is_paper(program, table, step))
                self.assertFalse(is_paper(program, holding, step))
                papers += so
            if chance.random() < 0.5:
                self.look(program, table)
        self.assertGreater(papers, 400)

    def test_beyond_the_words(self):
        """Whatever a box lets in: states are of words, and of rows of as many as the width."""
        numbers, rows, rooms = self.out["main", 1]
        wide = {**self.out, ("main", 0): ({"x": (-9, 9), "y": (-9, 9)}, {"b": (0, 9, (-9, 9))}, {})}
        paper = ("out", ("main", 0), {"x": 2, "y": 0, "b": (0, 0)}, 1)
        self.ask(wide, paper, True)
        for name, worth in (("x", 3), ("y", -3), ("b", (0, 0, 0)), ("b", (0, 3)), ("b", (-3,))):
            self.ask(wide, with_part(paper, (2,), {**paper[2], name: worth}), False)
        self.ask(wide, with_part(paper, (2,), {**paper[2], "b": (2, -2)}), True)

    def test_a_word_and_parts_of_another_kind(self):
        """What is out of a call by one step is no paper with the parts of what is behind it, nor the other way."""
        table, paper = self.papers[1]
        other = {"u": 1, "p": 2, "a": (0, 0)}
        for word in ("out", "behind", "begins"):
            self.ask(table, (word, *paper[1:3], ("f", 2), other), False)
            self.ask(table, (word, *paper[1:3], 0), word == "out")
            self.ask(table, (word, *paper[1:3], 0, 0), False)

    def test_states_beyond_the_table(self):
        """A state that doesn't lie in the table bears no paper, whatever it leads to."""
        table, paper = self.papers[0]
        self.ask(table, ("out", ("main", 0), {"x": 2, "y": 0, "b": ()}, 1), False)
        self.ask({**table, ("main", 0): None}, paper, False)
        table, paper = self.papers[2]
        self.ask({**table, ("f", 2): None}, paper, False)
        self.ask({**table, ("main", 3): None}, paper, False)
        self.ask(table, with_part(paper, (4,), {"u": -1, "p": 2, "a": (0, 0)}), False)


class TestOfPrograms(PapersCase):
    def test_odd_bounds(self):
        """A box of which no state lies in the width leads nowhere, and one beyond the words lets in all words."""
        for program in (FACTORIAL, BACKWARDS, DEEP, EVERY):
            width = program[0]
            whole = whole_table(program)
            led_to = {other for place, box in whole.items() for other, _ in leads(program, place, box)}
            for place in whole:
                numbers, rows, rooms = whole[place]
                wide = ({name: (-99, 99) for name in numbers}, {row: (-7, 99, (-99, 99)) for row in rows},
                        dict.fromkeys(rooms, 10 ** 59))
                self.look(program, {**whole, place: wide}, True)
                if place in led_to:
                    turned = ({name: (1, 0) for name in numbers}, rows, rooms)
                    beyond = ({name: (width + 1, width + 9) for name in numbers}, rows, rooms)
                    self.assertIsNotNone(self.look(program, {**whole, place: turned}))
                    self.assertIsNotNone(self.look(program, {**whole, place: beyond}))


if __name__ == "__main__":
    unittest.main()
