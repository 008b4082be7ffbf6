"""Which things are programs (points 2, 4, 5 and 6), and the spot of what is none."""

import copy
import random
import unittest

import oracle
from samples import PLAIN_THREE, SAMPLES, THINGS, alone, made_program, paths, with_part
from withinall.errors import NoPlace, NoProgram, NoRow, NoText, WithinError
from withinall.programs import is_program, need_program

BACK = (0, ("back", "x"))


def definition(name="main", params=(), fingers=(), rows=(), steps=(BACK,)):
    return (name, params, fingers, rows, steps)


def steps_many(many):
    return tuple((label, ("set", "x", 0)) for label in range(many - 1)) + ((many - 1, ("back", "x")),)


class ProgramCase(unittest.TestCase):
    def stands(self, program):
        self.assertIs(is_program(program), True, program)
        self.assertIsNone(need_program(program))
        self.assertIsNone(oracle.wrong_spot(program))

    def falls(self, thing, *spot):
        self.assertIs(is_program(thing), False, thing)
        with self.assertRaises(NoProgram) as caught:
            need_program(thing)
        self.assertEqual(repr(caught.exception.spot), repr(spot), thing)
        self.assertEqual(oracle.wrong_spot(thing), spot)
        for other in (NoText, NoPlace, NoRow):
            self.assertNotIsInstance(caught.exception, other)
        self.assertIsInstance(caught.exception, WithinError)


class TestFrame(ProgramCase):
    def test_samples(self):
        for program in SAMPLES:
            self.stands(program)
        for seed in range(200):
            self.stands(made_program(seed))

    def test_anything(self):
        for thing in THINGS:
            self.falls(thing, None, None)
            self.falls((thing, thing), None, None)
            if not isinstance(thing, tuple) or len(thing) == 0:
                self.falls((5, thing), None, None)

    def test_two_parts(self):
        defs = (definition(),)
        self.stands((5, defs))
        for thing in ([5, defs], (5,), (5, defs, ()), (5, defs, None), {5: defs}, (defs, 5), (5, list(defs))):
            self.falls(thing, None, None)

    def test_width(self):
        defs = (definition(),)
        for width in (1, 2, 30, 31):
            self.stands((width, defs))
        for width in (0, -1, 32, 10 ** 59, True, False, None, "5", (5,), [5]):
            self.falls((width, defs), None, None)

    def test_how_many_defs(self):
        names = ("main", "b", "c", "d", "e", "f", "g")
        for many in range(1, 7):
            self.stands((5, tuple(definition(name) for name in names[:many])))
        self.falls((5, ()), None, None)
        self.falls((5, tuple(definition(name) for name in names)), None, None)
        self.falls((5, tuple(definition(name) for name in names[:6]) + (None,)), None, None)


class TestDefs(ProgramCase):
    def alone(self, *parts, **named):
        return (5, (definition(*parts, **named),))

    def test_five_parts(self):
        for thing in THINGS:
            self.falls((5, (thing,)), 0, None)
            self.falls((5, (definition(), thing)), 1, None)
        self.falls((5, (list(definition()),)), 0, None)
        self.falls((5, (definition()[:4],)), 0, None)
        self.falls((5, (definition() + ((),),)), 0, None)

    def test_names(self):
        for name in ("a", "z", "main", "zzzz", "if", "set", "rows", "def"):
            self.stands((5, (definition(), definition("m" if name == "main" else name))))
        for name in ("", "abcde", "A", "aB", "a1", "1", "a b", " a", "a ", "a\n", "_", "`", "{", None, True, 3, ("a",),
                     ["a"], ("m", "a", "i", "n"), {"a": 1}):
            self.falls((5, (definition(), definition(name))), 1, None)
            for part in range(1, 4):
                self.falls((5, (with_part(definition(), (part,), (name,)),)), 0, None)

    def test_tuples_of_names(self):
        for thing in (None, True, 0, "", "a", ["a"], [], {}, {"a": 1}, (("a",),)):
            for part in range(1, 4):
                self.falls((5, (with_part(definition(), (part,), thing),)), 0, None)

    def test_params(self):
        other = definition()
        self.stands((5, (other, definition("f", ("b", "a", "p", "r"), ("p", "q"), ("r", "s")))))
        self.stands((5, (other, definition("f", ("z", "y", "x")))))
        self.falls((5, (other, definition("f", ("a", "b", "a")))), 1, None)
        self.falls((5, (other, definition("f", ("p", "p"), ("p",)))), 1, None)

    def test_fingers(self):
        for fingers in ((), ("p",), ("p", "q"), ("a", "p", "zzzz"), ("a", "aa", "b")):
            self.stands(self.alone(fingers=fingers))
        for fingers in (("q", "p"), ("p", "p"), ("a", "b", "d", "c"), ("a", "b", "c", "d"), ("aa", "a")):
            self.falls(self.alone(fingers=fingers), 0, None)

    def test_rows(self):
        for rows in ((), ("a",), ("a", "b"), ("aa", "b")):
            self.stands(self.alone(rows=rows))
        for rows in (("b", "a"), ("a", "a"), ("a", "b", "c"), ("b", "aa")):
            self.falls(self.alone(rows=rows), 0, None)

    def test_no_name_both(self):
        self.stands(self.alone(fingers=("p", "q"), rows=("a", "b")))
        self.falls(self.alone(fingers=("p", "q"), rows=("a", "q")), 0, None)
        self.falls(self.alone(fingers=("p",), rows=("p",)), 0, None)

    def test_how_many_steps(self):
        for many in (1, 2, 29, 30):
            self.stands(self.alone(steps=steps_many(many)))
        for steps in ((), steps_many(31), list(steps_many(3)), None, True, 3, "x", {}, {0: ("back", "x")}):
            self.falls(self.alone(steps=steps), 0, None)

    def test_plain_names(self):
        acts = [("set", name, 0) for name in "cdefghi"]
        self.stands(alone(*acts[:5]))
        self.falls(alone(*acts[:6]), 0, None)
        self.falls(alone(*acts), 0, None)
        self.stands(alone(*acts[:5], fingers=("p", "q", "r"), rows=("y", "z")))
        params = tuple("abcdef")
        two = ("set", "y", 0), ("tell", "a")
        self.stands((5, (definition(), definition("f", params, steps=((0, ("back", "a")),)))))
        self.falls((5, (definition(), definition("f", params, steps=((0, two[0]), (1, ("back", "a")))))), 1, None)
        self.stands((5, (definition(), definition("f", params, steps=((0, two[1]), (1, ("back", "a")))))))
        self.falls((5, (definition(), definition("f", params + ("g",), steps=((0, ("back", "a")),)))), 1, None)

    def test_plain_names_wherever_they_stand(self):
        five = [("set", name, 0) for name in "cdefg"]
        for act in (("check", "y", "<", 0), ("check", 0, "<=", "y"), ("if", "y", "<", 0, 0), ("if", 0, "<", "y", 0),
                    ("tell", "y"), ("get", "x", "r", "y"), ("put", "r", "y", "x"), ("put", "r", "x", "y"),
                    ("length", "y", "r"), ("row", "r", "y"), ("ask", "y", 0, 0), ("add", "x", "y", 0),
                    ("mid", "x", "x", "y"), ("plus", "x", "x", "y"), ("call", "y", "main", ())):
            self.stands(alone(*five[:4], act, rows=("r",)))
            self.falls(alone(*five, act, rows=("r",)), 0, None)
        callee = definition("f", ("a",))
        for many, so in ((4, True), (5, False)):
            steps = alone(*five[:many], ("call", "x", "f", ("y",)))[1][0][4]
            program = (5, (definition(steps=steps), callee))
            if so:
                self.stands(program)
            else:
                self.falls(program, 0, None)

    def test_callees_are_no_names_of_the_def(self):
        acts = [("set", name, 0) for name in "cdefg"] + [("call", "x", "main", ())]
        self.stands(alone(*acts, rows=("r",)))


class TestSteps(ProgramCase):
    def test_steps_by_themselves(self):
        for thing in THINGS:
            self.falls((5, (definition(steps=(thing,)),)), 0, 0)
            self.falls((5, (definition(steps=(BACK, thing)),)), 0, 1)
        for step in ([0, ("back", "x")], (0, ["back", "x"]), (0,), (0, ("back", "x"), None), (("back", "x"), 0)):
            self.falls((5, (definition(steps=(step,)),)), 0, 0)

    def test_labels(self):
        for label in (0, 1, 9998, 9999):
            self.stands((5, (definition(steps=((label, ("back", "x")),)),)))
        for label in (-1, 10000, 10 ** 59, True, False, None, "0", (0,), [0], "x"):
            self.falls((5, (definition(steps=((label, ("back", "x")),)),)), 0, 0)
            self.falls((5, (definition(steps=((0, ("tell", "x")), (label, ("back", "x")))),)), 0, 1)

    def test_labels_rise(self):
        for labels, wrong in (((0, 0), 1), ((5, 4), 1), ((1, 3, 2), 2), ((1, 2, 2), 2), ((9999, 9999), 1),
                              ((7, 5, 6), 1)):
            steps = tuple((label, ("go", labels[0])) for label in labels)
            self.falls((5, (definition(steps=steps),)), 0, wrong)
        self.stands((5, (definition(steps=tuple((label, ("go", 3)) for label in (3, 4, 900, 9999))),)))

    def act_stands(self, *act):
        self.stands(alone(act))

    def act_falls(self, *act):
        self.falls(alone(act), 0, 0)
        self.falls(alone(("tell", "x"), act), 0, 1)

    def test_act_of_each_kind(self):
        for act in (("set", "x", -5), ("set", "p", 5), ("add", "x", "y", -5), ("add", "x", "p", 5),
                    ("add", "p", "q", 0), ("mid", "x", "p", "y"), ("mid", "p", "q", "p"), ("mid", "x", "y", "z"),
                    ("row", "a", "x"), ("row", "b", "p"), ("get", "x", "a", "y"), ("get", "x", "b", "p"),
                    ("put", "a", "p", "q"), ("put", "b", "x", "x"), ("length", "x", "a"), ("length", "p", "b"),
                    ("ask", "x", -5, 5), ("ask", "x", 3, 3), ("tell", "p"), ("tell", "x"), ("check", "x", "<", "p"),
                    ("check", -5, "<=", 5), ("if", "p", "<=", "x", 1), ("if", 5, "<", -5, 0), ("go", 0), ("go", 1),
                    ("call", "x", "main", ()), ("back", "p"), ("back", "x")):
            self.act_stands(*act)
        for kind in PLAIN_THREE:
            self.act_stands(kind, "x", "y", "z")
            self.act_stands(kind, "x", "x", "x")

    def test_no_act(self):
        for act in (("sat", "x", 1), ("SET", "x", 1), ("set ", "x", 1), ("", "x"), (), (None, "x"), (True,), (0, "x"),
                    (("set",), "x", 1), (["set"], "x", 1), ({}, "x"), ("x",), ("def", "x")):
            self.falls(alone(act), 0, 0)
        self.falls((5, (definition(steps=((0, "back"),)),)), 0, 0)

    def test_too_few_and_too_many_parts(self):
        for act in (("set", "x", 1), ("add", "x", "y", 1), ("mid", "x", "y", "z"), ("row", "a", "y"),
                    ("get", "x", "a", "y"), ("put", "a", "y", "z"), ("length", "x", "a"), ("ask", "x", 0, 1),
                    ("tell", "x"), ("check", 0, "<", 1), ("if", 0, "<", 1, 0), ("go", 0), ("call", "x", "main", ()),
                    ("back", "x"), *((kind, "x", "y", "z") for kind in PLAIN_THREE)):
            self.act_stands(*act)
            self.act_falls(*act[:-1])
            for more in ("x", 0, (), None):
                self.act_falls(*act, more)

    def test_parts_of_other_sorts(self):
        """Each part of each act by all that may not stand there."""
        plain, finger, row = "x", "p", "a"
        word, beyond = (-5, 0, 5), (-6, 6, 10 ** 59)
        things = [thing for thing in THINGS if not isinstance(thing, (int, str)) or isinstance(thing, bool)]
        no_names = ["", "abcde", "A", "a b", "<", "x1"]
        wrong = {
            "number": [row, *word, *beyond, *things, *no_names],
            "plain": [row, finger, *word, *beyond, *things, *no_names],
            "row": [plain, finger, "z", *word, *beyond, *things, *no_names],
            "word": [plain, finger, row, *beyond, *things, *no_names],
            "side": [row, *beyond, *things, *no_names],
            "sign": [">", ">=", "=", "==", "", "< ", "=<", "<<", plain, *word, *things],
            "label": [-1, 10000, 10 ** 59, plain, finger, *things, *no_names],
            "callee": [*word, *things, *no_names],
            "given": [plain, 0, None, True, "", ["x"], [], {}, (1,), ("x", 1), ("x", ""), (("x",),), ("x", "abcde")],
        }
        right = {"number": "y", "plain": "x", "row": "a", "word": 1, "side": 0, "sign": "<", "label": 0,
                 "callee": "main", "given": ()}
        three = ("plain", "plain", "plain")
        sorts = {"set": ("number", "word"), "add": ("number", "number", "word"), "mid": ("number",) * 3,
                 "row": ("row", "number"), "get": ("plain", "row", "number"), "put": ("row", "number", "number"),
                 "length": ("number", "row"), "ask": ("plain", "word", "word"), "tell": ("number",),
                 "check": ("side", "sign", "side"), "if": ("side", "sign", "side", "label"), "go": ("label",),
                 "call": ("plain", "callee", "given"), "back": ("number",), **{kind: three for kind in PLAIN_THREE}}
        for kind, parts in sorts.items():
            act = (kind, *(right[part] for part in parts))
            self.act_stands(*act)
            for at, part in enumerate(parts):
                for thing in wrong[part]:
                    self.act_falls(*with_part(act, (at + 1,), thing))

    def test_words_of_the_width(self):
        for width in (1, 5, 31):
            for word in (-width, -1, 0, 1, width):
                for act in (("set", "x", word), ("add", "x", "x", word), ("ask", "x", word, word),
                            ("check", word, "<", "x"), ("check", "x", "<", word), ("if", word, "<", word, 0)):
                    self.stands(alone(act, width=width))
            for word in (-width - 1, width + 1):
                for act in (("set", "x", word), ("add", "x", "x", word), ("ask", "x", -1, word), ("ask", "x", word, 1),
                            ("check", word, "<", "x"), ("check", "x", "<", word), ("if", word, "<", 0, 0),
                            ("if", 0, "<", word, 0)):
                    self.falls(alone(act, width=width), 0, 0)

    def test_ask_between(self):
        self.act_falls("ask", "x", 1, 0)
        self.act_falls("ask", "x", 5, -5)

    def test_fingers_of_fingers_alone(self):
        self.act_falls("add", "p", "x", 1)
        self.act_falls("mid", "p", "q", "x")
        self.act_falls("mid", "p", "x", "q")
        self.act_falls("mid", "p", "x", "x")
        for kind in PLAIN_THREE:
            self.act_falls(kind, "p", "x", "x")
            self.act_falls(kind, "x", "p", "x")
            self.act_falls(kind, "x", "x", "p")


class TestTogether(ProgramCase):
    def with_callee(self, *given, callee="f", x="x"):
        steps = ((0, ("call", x, callee, given)), (1, ("back", "x")))
        return (5, (definition(fingers=("p", "q"), rows=("a", "b"), steps=steps),
                    definition("f", ("r", "n", "i"), ("i",), ("r", "s"), ((0, ("back", "n")),))))

    def test_names_twice(self):
        main, other = definition(), definition("f")
        self.stands((5, (other, main)))
        self.falls((5, (main, main)), 1, None)
        self.falls((5, (other, main, other)), 2, None)
        self.falls((5, (main, definition("g"), other, definition("g"), other)), 3, None)
        self.falls((5, (other, other)), 1, None)

    def test_main(self):
        self.falls((5, (definition("f"),)), None, None)
        self.falls((5, (definition("f"), definition("g"))), None, None)
        self.falls((5, (definition("main", ("x",)),)), None, None)
        self.falls((5, (definition("f"), definition("main", ("a",), (), ("a",)))), None, None)

    def test_labels_of_the_def(self):
        self.falls(alone(("go", 2)), 0, 0)
        self.falls(alone(("tell", "x"), ("if", 0, "<", 1, 9999)), 0, 1)
        self.falls((5, (definition(), definition("f", steps=((1, ("go", 0)),)))), 1, 0)
        self.stands((5, (definition(), definition("f", steps=((1, ("go", 1)),)))))

    def test_callees(self):
        self.stands(self.with_callee("a", "x", "p"))
        self.falls(self.with_callee("a", "x", "p", callee="g"), 0, 0)
        self.falls(self.with_callee("a", "x", "p", callee="main"), 0, 0)
        self.stands(self.with_callee(callee="main"))

    def test_given(self):
        for given in (("b", "p", "p"), ("a", "zz", "q"), ("a", "p", "q")):
            self.stands(self.with_callee(*given))
        for given in ((), ("a",), ("a", "x"), ("a", "x", "p", "x"), ("x", "x", "p"), ("p", "x", "p"), ("a", "a", "p"),
                      ("a", "x", "x"), ("a", "x", "a"), ("p", "x", "a")):
            self.falls(self.with_callee(*given), 0, 0)

    def test_last_act(self):
        for act in (("back", "x"), ("back", "p"), ("go", 0), ("go", 7)):
            self.stands((5, (definition(fingers=("p",), steps=((0, ("tell", "x")), (7, act))),)))
        for act in (("tell", "x"), ("set", "x", 0), ("if", 0, "<", 1, 0), ("check", 0, "<", 1),
                    ("call", "x", "main", ())):
            self.falls((5, (definition(steps=((0, ("tell", "x")), (7, act))),)), 0, 1)
            self.falls((5, (definition(steps=((7, act),)),)), 0, 0)
        self.stands((5, (definition(steps=((0, ("back", "x")), (1, ("go", 0)), (2, ("back", "x")))),)))


class TestFirstOfTwo(ProgramCase):
    """Two faults at once: the field is the first in the order of point 6."""

    def test_order_within_a_def(self):
        bad, far = (0, ("set", "x", 9)), (0, ("go", 7))
        seven = tuple(("set", name, 0) for name in "cdefghi")
        self.falls((5, (definition(params=("x", "x"), steps=(bad,)),)), 0, None)
        self.falls((32, (definition(steps=(bad,)),)), None, None)
        self.falls((5, (definition(steps=(bad, bad)),)), 0, 0)
        self.falls((5, (definition(steps=(far, (1, ("set", "x", 9)))),)), 0, 1)
        self.falls(alone(*seven), 0, None)
        self.falls(alone(*seven, ("set", "x", 9)), 0, 7)
        self.falls(alone(*seven, ("go", 77)), 0, None)
        self.falls(alone(("go", 10000), ("set", "x", 9)), 0, 0)
        self.falls(alone(("go", 77), ("set", "x", 9)), 0, 1)
        self.falls(alone(("call", "x", "f", ()), ("set", "x", 9)), 0, 1)

    def test_order_of_defs(self):
        bad, far = (0, ("set", "x", 9)), (0, ("go", 7))
        self.falls((5, (definition(steps=(bad,)), None)), 0, 0)
        self.falls((5, (definition(steps=(far,)), None)), 1, None)
        self.falls((5, (None, definition(steps=(bad,)))), 0, None)
        self.falls((5, (definition(steps=(far,)), definition("f", steps=(bad,)))), 1, 0)
        self.falls((5, (definition("f", steps=(bad,)), definition("f"))), 0, 0)

    def test_order_behind_all_defs(self):
        far = (0, ("go", 7))
        self.falls((5, (definition("f", steps=(far,)),)), None, None)
        self.falls((5, (definition("f"), definition("f"))), 1, None)
        self.falls((5, (definition("main", ("x",)), definition("main"))), 1, None)
        self.falls((5, (definition(steps=(far,)), definition())), 1, None)
        self.falls((5, (definition(steps=(far,)), definition("f", ("x",), steps=(far,)))), 0, 0)
        self.falls((5, (definition("f", steps=(BACK, (1, ("tell", "x")))), definition(steps=(far,)))), 0, 1)
        self.falls((5, (definition(steps=(BACK, (1, ("if", 0, "<", 1, 7)), (2, ("tell", "x")))),)), 0, 1)


class TestAnything(ProgramCase):
    def compare(self, thing):
        kept = copy.deepcopy(thing)
        spot = oracle.wrong_spot(thing)
        if spot is None:
            self.stands(thing)
        else:
            self.falls(thing, *spot)
        self.assertEqual(repr(thing), repr(kept))

    def test_every_part_by_everything(self):
        for program in SAMPLES:
            for path in paths(program):
                for thing in THINGS:
                    self.compare(with_part(program, path, thing))

    def test_parts_left_out_exchanged_and_doubled(self):
        for program in SAMPLES:
            for path in paths(program):
                part = program
                for at in path:
                    part = part[at]
                if isinstance(part, tuple):
                    self.compare(with_part(program, path, list(part)))
                    self.compare(with_part(program, path, part[1:]))
                    self.compare(with_part(program, path, part[:-1]))
                    self.compare(with_part(program, path, part[::-1]))
                    self.compare(with_part(program, path, part + part[-1:]))
                    self.compare(with_part(program, path, part[1:2] + part))

    def test_many_faults_at_once(self):
        for seed in range(1500):
            chance = random.Random(seed)
            program = made_program(seed % 100)
            for _ in range(chance.randint(1, 4)):
                path = chance.choice(list(paths(program)))
                other = made_program(chance.randint(0, 99))
                piece = other
                for at in chance.choice(list(paths(other))):
                    piece = piece[at]
                program = with_part(program, path, chance.choice((piece, piece, *THINGS)))
            self.compare(program)


if __name__ == "__main__":
    unittest.main()
