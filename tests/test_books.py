"""Books that are told programs one behind the other (point 17)."""

import copy
import random
import unittest

import judging
from cases import OwnCase
from samples import BACKWARDS, DEEP, EVERY, FACTORIAL, SAMPLES, THINGS, great_program, made_act, made_program, small_program
from samples import with_part
from test_least import COUNT, HALVES, RING
from withinall.books import Book
from withinall.errors import NoProgram
from withinall.groups import groups
from withinall.least import least
from withinall.programs import is_program, places_of

# A loop that calls, a callee, a def that only calls itself, and one that nobody calls.
LOOP = (9, (
    ("main", (), (), (), (
        (0, ("ask", "n", 0, 5)),
        (1, ("if", "n", "<=", 0, 5)),
        (2, ("call", "x", "f", ("n",))),
        (3, ("add", "n", "n", -1)),
        (4, ("go", 1)),
        (5, ("tell", "x")),
        (6, ("call", "y", "g", ("n",))),
        (7, ("back", "x")),
    )),
    ("f", ("u",), (), (), ((0, ("add", "u", "u", 1)), (1, ("back", "u")))),
    ("g", ("u",), (), (), ((0, ("if", "u", "<=", 0, 2)), (1, ("call", "u", "g", ("u",))), (2, ("back", "u")))),
    ("h", ("u",), (), (), ((5, ("tell", "u")), (6, ("back", "u")))),
))
CALLING = (("f", 0), ("f", 1), ("main", 1), ("main", 2), ("main", 3), ("main", 4))
CALLED = (("g", 2),)


def with_step(program, name, label, act):
    """The program with another act there, a step that is new where there is none, or none at all (None)."""
    width, defs = program
    made = []
    for one in defs:
        steps = dict(one[4])
        if one[0] == name:
            steps[label] = act
        made.append((*one[:4], tuple((each, steps[each]) for each in sorted(steps) if steps[each] is not None)))
    return (width, tuple(made))


def with_head(program, name, *head):
    """The program with another name, other params, fingers and rows of the def, or without it where none are told."""
    width, defs = program
    made = [(*head, *one[len(head):]) if one[0] == name else one for one in defs if one[0] != name or head]
    return (width, tuple(made))


class BookCase(OwnCase):
    def tell(self, book, program, before=None):
        """What the book tells of the program behind the one before is what the promise has; its rows."""
        self.assertTrue(is_program(program), program)
        many = len(book)
        kept = copy.deepcopy(program)
        table = book.tell(program)
        self.assertEqual(program, kept)
        self.assertEqual(table, least(program))
        self.assertEqual(list(table), places_of(program))
        rows = book.rows()
        self.assertEqual(rows, judging.fates(program, table, before, before and least(before)))
        self.assertEqual([row[0] for row in rows], [tuple(group) for group in groups(program)])
        self.assertTrue(all(isinstance(row, tuple) for row in rows))
        self.assertEqual(len(book), many + 1)
        self.assertOwn([table, rows, book.rows()])
        return rows

    def edit(self, one, other):
        """The rows of the other program behind the one, in a book of their own; without those that are kept."""
        book = Book()
        self.tell(book, one)
        return {row[0]: row[2] for row in self.tell(book, other, one) if row[1:] != ("kept",)}


class TestTelling(BookCase):
    def test_at_first(self):
        book = Book()
        self.assertEqual((book.rows(), len(book)), ([], 0))
        rows = self.tell(book, LOOP)
        self.assertEqual({row[1:] for row in rows}, {("reckoned", ("new",))})
        self.assertEqual(book.tell(program=LOOP), least(LOOP))

    def test_the_same_twice(self):
        for program in (*SAMPLES, LOOP, COUNT, HALVES, RING, *map(small_program, range(30)), *map(made_program, range(30))):
            book = Book()
            self.tell(book, program)
            for _ in range(2):
                rows = self.tell(book, copy.deepcopy(program), program)
                self.assertEqual({row[1:] for row in rows}, {("kept",)})

    def test_there_and_back(self):
        other = with_step(LOOP, "main", 3, ("add", "n", "n", -2))
        book = Book()
        self.tell(book, LOOP)
        one = self.tell(book, other, LOOP)
        self.assertEqual(self.tell(book, LOOP, other), one)
        self.assertEqual({row[1:] for row in self.tell(book, LOOP, LOOP)}, {("kept",)})

    def test_defs_in_another_order(self):
        self.assertEqual(self.edit(LOOP, (9, LOOP[1][::-1])), {})


class TestCauses(BookCase):
    def test_new(self):
        for one, other in ((LOOP, FACTORIAL), (BACKWARDS, DEEP)):
            for group, cause in self.edit(one, other).items():
                self.assertEqual(cause, ("width",) if list(group) in groups(one) else ("new",))
        told = self.edit(LOOP, with_step(LOOP, "main", 4, ("go", 5)))
        news = [group for group, cause in told.items() if cause == ("new",)]
        self.assertEqual(news, [(("f", 0),), (("f", 1),), (("main", 1),), (("main", 2),), (("main", 3),), (("main", 4),)])

    def test_new_ahead_of_all(self):
        """A group of other places is new, whatever else is another."""
        other = with_step(with_step((8, LOOP[1]), "main", 3, None), "f", 0, ("tell", "u"))
        self.assertEqual(self.edit(LOOP, other)[CALLING[:4] + CALLING[5:]], ("new",))

    def test_width(self):
        told = self.edit(LOOP, (8, LOOP[1]))
        self.assertEqual(set(told.values()), {("width",)})
        self.assertEqual(len(told), len(groups(LOOP)))
        # Ahead of a def, a first place, a step and what comes from elsewhere.
        other = with_step(with_head((8, LOOP[1]), "f", "f", ("u",), ("p",)), "main", 0, ("set", "n", 1))
        self.assertEqual(set(self.edit(LOOP, other).values()), {("width",)})

    def test_def(self):
        places = {name: [group for group in map(tuple, groups(LOOP)) if any(place[0] == name for place in group)]
                  for name in ("f", "h", "main")}
        for head in (("h", ("u",), ("p",)), ("h", ("u",), ("u",)), ("h", ("u",), (), ("a",)), ("h", ("u", "v")), ("h", ())):
            told = self.edit(LOOP, with_head(LOOP, "h", *head))
            self.assertEqual(told, {group: ("def", "h") for group in places["h"]}, head)
        told = self.edit(LOOP, with_head(LOOP, "f", "f", ("u",), (), ("a", "b")))
        self.assertEqual(told[CALLING], ("def", "f"))
        # By another name that an act has, or has no more.
        told = self.edit(LOOP, with_step(LOOP, "h", 5, ("tell", "v")))
        self.assertEqual(told, {group: ("def", "h") for group in places["h"]})
        other = with_step(LOOP, "main", 5, ("tell", "z"))
        told = self.edit(LOOP, other)
        self.assertEqual({group: told[group] for group in places["main"]},
                         {group: ("def", "main") for group in places["main"]})
        self.assertEqual(self.edit(other, LOOP), told)

    def test_def_by_names(self):
        """The first of the defs of its places, by names, ahead of first places and steps."""
        other = with_step(with_head(LOOP, "f", "f", ("u",), ("p",)), "main", 3, ("add", "z", "n", -1))
        self.assertEqual(self.edit(LOOP, other)[CALLING], ("def", "f"))
        other = with_step(with_head(LOOP, "main", "main", (), ("p",)), "f", 0, ("tell", "u"))
        self.assertEqual(self.edit(LOOP, other)[CALLING], ("def", "main"))

    def test_the_order_of_params(self):
        steps = ((0, ("tell", "u")), (1, ("tell", "v")), (2, ("back", "u")))
        one, other = [(9, (*LOOP[1], ("k", params, (), (), steps))) for params in (("u", "v"), ("v", "u"))]
        self.assertEqual(set(self.edit(one, other).items()), {((("k", at),), ("def", "k")) for at in range(3)})

    def test_first(self):
        """A step ahead of the first: what was it is so no more."""
        other = with_step(LOOP, "h", 3, ("tell", "u"))
        self.assertEqual(self.edit(LOOP, other), {(("h", 3),): ("new",), (("h", 5),): ("first", "h")})
        self.assertEqual(self.edit(other, LOOP), {(("h", 5),): ("first", "h")})
        steps = ((0, ("go", 1)), (1, ("ask", "x", 0, 1)), (2, ("go", 0)), (3, ("back", "x")))
        one = (9, (("main", (), (), (), steps[1:2] + ((2, ("go", 1)),) + steps[3:]),))
        two = (9, (("main", (), (), (), steps[:2] + ((2, ("go", 1)),) + steps[3:]),))
        self.assertEqual(self.edit(one, two), {(("main", 0),): ("new",), (("main", 1), ("main", 2)): ("first", "main")})
        # Where both first places are of it, it is no cause.
        three = (9, (("main", (), (), (), ((1, ("ask", "x", 0, 1)), (2, ("go", 1)), (3, ("back", "x")))),))
        self.assertEqual(self.edit(one, three), {})

    def test_first_by_names(self):
        """The first def, by names, ahead of any step; a def that is gone leaves a place, but not a first one."""
        steps = ((0, ("if", "x", "<", 1, 2)), (1, ("call", "x", "f", ())), (2, ("go", 0)))
        callee = ("f", (), (), (), ((4, ("tell", "x")), (5, ("back", "x"))))
        one = (9, (("main", (), (), (), steps), callee))
        two = (9, (("main", (), (), (), steps), with_part(callee, (4,), ((3, ("tell", "x")), *callee[4]))))
        whole = (("f", 4), ("f", 5), ("main", 0), ("main", 1), ("main", 2))
        self.assertEqual(self.edit(one, two), {((("f", 3),) + whole): ("new",)})
        back = ("f", (), (), (), ((4, ("back", "x")), (5, ("go", 4))))
        ahead = ("f", (), (), (), ((3, ("go", 5)), (4, ("back", "x")), (5, ("go", 4))))
        main = ("main", (), (), (), ((0, ("call", "x", "f", ())), (1, ("back", "x"))))
        self.assertEqual(self.edit((9, (main, back)), (9, (main, ahead))),
                         {(("f", 3),): ("new",), (("f", 4),): ("first", "f"), (("f", 5),): ("from", ("f", 3))})

    def test_step(self):
        """The first place whose act or next label is another, ahead of what leads into it."""
        other = with_step(LOOP, "main", 3, ("add", "n", "n", -2))
        self.assertEqual(self.edit(LOOP, other)[CALLING], ("step", ("main", 3)))
        other = with_step(with_step(other, "f", 0, ("add", "u", "u", 2)), "main", 0, ("ask", "n", 0, 4))
        self.assertEqual(self.edit(LOOP, other)[CALLING], ("step", ("f", 0)))
        # The next label alone.
        self.assertEqual(self.edit(LOOP, with_step(LOOP, "h", 7, ("back", "u")))[(("h", 6),)], ("step", ("h", 6)))
        relabelled = with_step(with_step(LOOP, "h", 6, None), "h", 8, ("back", "u"))
        self.assertEqual(self.edit(LOOP, relabelled), {(("h", 5),): ("step", ("h", 5)), (("h", 8),): ("new",)})

    def test_from(self):
        """What leads into a group has another act or another box, or leads there no more, or only now."""
        other = with_step(LOOP, "main", 0, ("ask", "n", 0, 4))
        told = self.edit(LOOP, other)
        self.assertEqual(told[(("main", 0),)], ("step", ("main", 0)))
        self.assertEqual(told[CALLING], ("from", ("main", 0)))
        self.assertEqual(told[(("main", 5),)], ("from", ("main", 1)))
        # The group that is gone from is another, and what it comes to by the words of the callee.
        self.assertEqual(told[(("main", 6),)], ("from", ("main", 5)))
        # What leads into h stays as it is, though all that leads into the others is another.
        self.assertFalse(any(place[0] == "h" for group in told for place in group))
        more = with_step(LOOP, "h", 6, ("if", "u", "<", 1, 9))
        more = with_step(with_step(more, "h", 8, ("back", "u")), "h", 9, ("back", "u"))
        less = with_step(more, "h", 6, ("if", "u", "<", 1, 8))
        self.assertEqual(self.edit(more, less), {(("h", 6),): ("step", ("h", 6)), (("h", 8),): ("from", ("h", 6)),
                                                 (("h", 9),): ("from", ("h", 6))})

    def test_from_calls_and_backs(self):
        """A way leads from a call to its callee, and from the backs to the place behind the call."""
        other = with_step(LOOP, "main", 6, ("call", "y", "g", ("x",)))
        told = self.edit(LOOP, other)
        self.assertEqual(told[(("main", 6),)], ("step", ("main", 6)))
        self.assertEqual(told[(("g", 0), ("g", 1))], ("from", ("main", 6)))
        main = ("main", (), (), (), ((0, ("call", "x", "f", ())), (1, ("call", "x", "g", ())), (2, ("back", "x"))))
        defs = [("f", (), (), (), ((0, ("set", "u", word)), (1, ("back", "u")))) for word in (1, 2)]
        last = ("g", (), (), (), ((0, ("set", "u", 3)), (1, ("back", "u"))))
        told = self.edit((9, (main, defs[0], last)), (9, (main, defs[1], last)))
        self.assertEqual(told, {(("f", 0),): ("step", ("f", 0)), (("f", 1),): ("from", ("f", 0)),
                                (("main", 1),): ("from", ("f", 1)), (("g", 0),): ("from", ("main", 1)),
                                (("main", 2),): ("from", ("main", 1))})

    def test_two_at_once(self):
        """The first cause, in the order of point 17, of each two that hold of one group."""
        group = (("h", 5),)
        changes = {
            "width": lambda program: (8, program[1]),
            "def": lambda program: with_head(program, "h", "h", ("u", "v")),
            "first": lambda program: with_step(program, "h", 3, ("tell", "u")),
            "step": lambda program: with_step(program, "h", 5, ("set", "u", 1)),
            "from": lambda program: (program[0], (*program[1], ("k", (), (), (), (
                (0, ("call", "x", "h", ("x", "x")[:len(dict((one[0], one[1]) for one in program[1])["h"])])),
                (1, ("back", "x")))))),
        }
        whole = {"width": ("width",), "def": ("def", "h"), "first": ("first", "h"), "step": ("step", ("h", 5)),
                 "from": ("from", ("k", 0))}
        for at, one in enumerate(changes):
            self.assertEqual(self.edit(LOOP, changes[one](LOOP))[group], whole[one])
            for other in list(changes)[at + 1:]:
                self.assertEqual(self.edit(LOOP, changes[other](changes[one](LOOP)))[group], whole[one], (one, other))
                self.assertEqual(self.edit(changes[other](changes[one](LOOP)), LOOP)[group], whole[one], (one, other))

    def test_kept_where_the_box_stays(self):
        """Another act ahead that leads to the same box: what hangs on that box alone is kept."""
        other = with_step(LOOP, "f", 0, ("add", "u", "u", 1))
        self.assertEqual(self.edit(LOOP, other), {})
        main = [("main", (), (), (), ((0, act), (1, ("tell", "x")), (2, ("tell", "x")), (3, ("back", "x"))))
                for act in (("set", "x", 3), ("ask", "x", 3, 3))]
        self.assertEqual(self.edit((9, main[:1] and (main[0],)), (9, (main[1],))),
                         {(("main", 0),): ("step", ("main", 0)), (("main", 1),): ("from", ("main", 0))})

    def test_from_nothing(self):
        """What nobody came to and what somebody comes to have other boxes."""
        steps = ((0, ("set", "x", 3)), (1, ("check", "x", "<", 3)), (2, ("tell", "x")), (3, ("back", "x")))
        one, other = [(9, (("main", (), (), (), with_part(steps, (0, 1, 2), word)),)) for word in (3, 2)]
        for pair in ((one, other), (other, one)):
            self.assertEqual(self.edit(*pair), {(("main", 0),): ("step", ("main", 0)), (("main", 1),): ("from", ("main", 0)),
                                                (("main", 2),): ("from", ("main", 1)), (("main", 3),): ("from", ("main", 2))})

    def test_another_def(self):
        """A def that is new, or gone, changes nothing of what it doesn't lead to."""
        less = with_head(LOOP, "h")
        self.assertEqual(self.edit(LOOP, less), {})
        self.assertEqual(set(self.edit(less, LOOP).values()), {("new",)})
        caller = (9, (*LOOP[1], ("k", (), (), (), ((0, ("call", "x", "h", ("x",))), (1, ("back", "x"))))))
        self.assertEqual(self.edit(LOOP, caller), {(("k", 0),): ("new",), (("k", 1),): ("new",),
                                                   (("h", 5),): ("from", ("k", 0))})
        self.assertEqual(self.edit(caller, LOOP), {(("h", 5),): ("from", ("k", 0))})


class TestRefused(BookCase):
    def test_changes_nothing(self):
        book = Book()
        for thing in THINGS:
            with self.assertRaises(NoProgram) as caught:
                book.tell(thing)
            self.assertEqual((caught.exception.spot, len(book), book.rows()), ((None, None), 0, []))
        rows = self.tell(book, LOOP)
        other = with_step(LOOP, "main", 3, ("add", "n", "n", -2))
        for wrong, spot in ((with_step(LOOP, "main", 3, ("go", 99)), (0, 3)), (with_head(LOOP, "f", "f", ("U",)), (1, None)),
                            (with_head(LOOP, "main"), (None, None)), ((0, LOOP[1]), (None, None)), (list(LOOP), (None, None))):
            with self.assertRaises(NoProgram) as caught:
                book.tell(wrong)
            self.assertEqual(caught.exception.spot, spot)
            self.assertEqual((len(book), book.rows()), (1, rows))
        self.tell(book, other, LOOP)
        with self.assertRaises(NoProgram):
            book.tell(with_step(LOOP, "main", 3, ("go", 99)))
        self.assertEqual({row[1:] for row in self.tell(book, other, other)}, {("kept",)})
        self.assertEqual(len(book), 3)


class TestOwn(BookCase):
    def test_what_is_told(self):
        """What is done to tables and rows that were told changes nothing of the book."""
        book = Book()
        table = book.tell(LOOP)
        rows = book.rows()
        for box in table.values():
            for part in box or ():
                part.clear()
        table.clear()
        kept = list(rows)
        rows.clear()
        self.assertEqual(book.rows(), kept)
        again = self.tell(book, LOOP, LOOP)
        self.assertEqual({row[1:] for row in again}, {("kept",)})
        other = with_step(LOOP, "main", 0, ("ask", "n", 0, 4))
        self.assertEqual(dict((row[0], row[1:]) for row in self.tell(book, other, LOOP))[(("main", 6),)],
                         ("reckoned", ("from", ("main", 5))))

    def test_two_books_by_turns(self):
        one, other = Book(), Book()
        first, second = LOOP, with_step(LOOP, "main", 3, ("add", "n", "n", -2))
        self.tell(one, first)
        self.tell(other, second)
        self.tell(one, second, first)
        self.tell(other, second, second)
        self.tell(one, second, second)
        self.tell(other, first, second)
        self.assertEqual((len(one), len(other)), (3, 3))


class TestDrawn(BookCase):
    def edited(self, chance, program):
        """The program with something otherwise, that is let by."""
        while True:
            other = self.changed(chance, program)
            if is_program(other):
                return other

    def changed(self, chance, program):
        width, defs = program
        name, params, fingers, rows, steps = one = chance.choice(defs)
        number = defs.index(one)
        label, act = chance.choice(steps)
        kind = chance.random()
        if kind < 0.45:
            plain = tuple({"x", "y"} | ({"u", "v"} & set(params)))
            heads = [each[:4] for each in defs]
            labels = [each for each, _ in steps]
            return with_step(program, name, label, made_act(chance, width, fingers, rows, labels, heads, plain))
        if kind < 0.6:
            return with_step(program, name, label, None)
        if kind < 0.75:
            return with_step(program, name, chance.choice((label + 1, max(label - 1, 0), 0)), chance.choice(steps)[1])
        if kind < 0.8:
            return (max(1, min(31, width + chance.choice((-1, 1)))), defs)
        if kind < 0.9:
            part = chance.choice(((1, params[::-1]), (2, fingers[1:]), (3, rows[1:]), (2, ("p",)), (3, ("a", "b")), (1, ("x",))))
            return with_part(program, (1, number, part[0]), part[1])
        if kind < 0.95:
            return (width, tuple(each for each in defs if each != one))
        return (width, (*defs, ("e", (), (), (), ((3, ("tell", "x")), (4, act), (5, ("back", "x"))))))

    def test_edits(self):
        told = {}
        for seed in range(120):
            chance = random.Random(seed)
            program = (small_program, made_program)[seed % 4 == 3](seed)
            book = Book()
            self.tell(book, program)
            for _ in range(7):
                other = self.edited(chance, program)
                for row in self.tell(book, other, program):
                    cause = row[2][0] if len(row) == 3 else row[1]
                    told[cause] = told.get(cause, 0) + 1
                program = other
        self.assertEqual(sorted(told), ["def", "first", "from", "kept", "new", "step", "width"])
        self.assertGreater(min(told.values()), 25)

    def test_great_programs(self):
        for seed in (4, 5, 19):
            program = great_program(seed)
            book = Book()
            self.tell(book, program)
            for at in (29, 15, 3):
                label, act = program[1][5][4][at]
                other = with_step(program, "j", label, ("tell", "u") if at < 29 else ("back", "v"))
                self.tell(book, other, program)
                program = other
        self.tell(book, EVERY, program)


if __name__ == "__main__":
    unittest.main()
