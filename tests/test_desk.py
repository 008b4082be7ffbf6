"""The desk that is told rows and answers texts (point 21)."""

import random
import unittest

import judging
import looping
from drawn import drawn_text
from memory import lean
from samples import BACKWARDS, EVERY, EVERY_TEXT, FACTORIAL, SAMPLES, THINGS, made_program, small_program
from test_books import LOOP, with_step
from test_least import RING
from test_loops import NESTED, one_def
from withinall.desk import Desk
from withinall.errors import NoPlace, NoProgram, NoRow, NoText, WithinError
from withinall.least import least
from withinall.looks import looks, safe
from withinall.loops import led
from withinall.programs import is_program, places_of
from withinall.runs import run
from withinall.texts import shown

COUNT_TEXT = """width 9
def main
0 if 5 <= n 3
1 add n n 1
2 go 0
3 back n
4 tell n
5 go 4"""


def place_words(place):
    return ":".join(map(str, place))


def box_words(box):
    """The words of a box or of nothing."""
    if box is None:
        return "nothing"
    numbers, rows, rooms = box
    parts = [(name, *map(str, bounds)) for name, bounds in sorted(numbers.items())]
    for row, (low, high, cells) in sorted(rows.items()):
        parts.append((row, str(low), str(high), ":".join(map(str, cells)) if cells else "-"))
    parts += [(":".join(pair), str(room)) for pair, room in sorted(rooms.items())]
    return ", ".join(map(" ".join, parts)) or "any"


def group_words(row):
    words = [*map(place_words, row[0]), row[1]]
    for part in row[2] if row[2:] else ():
        words.append(part if type(part) is str else place_words(part))
    return " ".join(words)


def run_words(told):
    """The lines of what a run, or a machine, tells."""
    words, end, *counts = told
    ended = f"back {end[1]}" if end[0] == "back" else f"fault {end[1]} {place_words(end[2])}"
    return "\n".join((" ".join(map(str, words)) or "none", ended, *map(str, counts)))


class DeskCase(unittest.TestCase):
    def refused(self, desk, row, error, field, worth):
        with self.assertRaises(error) as caught:
            desk.say(row)
        self.assertIs(type(caught.exception), error)
        self.assertIsInstance(caught.exception, WithinError)
        self.assertEqual(getattr(caught.exception, field), worth, row)

    def no_row(self, desk, row):
        self.refused(desk, row, NoRow, "row", row)

    def desk(self, program):
        """A desk that is told the program by its text."""
        desk = Desk()
        self.assertEqual(desk.say("program\n" + shown(program)), "ok")
        return desk

    def answers(self, desk):
        """What the desk answers to all that may be asked by one word."""
        return [desk.say(row) for row in ("table", "looks", "safe", "groups")]

    def check(self, desk, program, before=None, chance=None):
        """The desk answers of this program, told behind the one before."""
        table = least(program)
        lines = [f"{place_words(place)} {box_words(table[place])}" for place in places_of(program)]
        self.assertEqual(desk.say("table"), "\n".join(lines))
        every, safe_ones = looks(program), safe(program, table)
        self.assertEqual(desk.say("looks"), "\n".join(f"{place_words(place)} {why}" for place, why in every) or "none")
        self.assertEqual(desk.say("safe"), "\n".join(f"{place_words(place)} {why}" for place, why in every
                                                     if place in safe_ones) or "none")
        fates = judging.fates(program, table, before, before and least(before))
        self.assertEqual(desk.say("groups"), "\n".join(map(group_words, fates)))
        for place in table:
            self.assertEqual(desk.say("at " + place_words(place)), box_words(table[place]))
            if place in dict(every):
                self.check_state(program, place, table[place], desk.say("fails " + place_words(place)), place in safe_ones)
            else:
                self.refused(desk, "fails " + place_words(place), NoPlace, "place", place)
        chance = chance or random.Random(1)
        for steps in (0, 5, 200):
            words = [chance.randint(-program[0], program[0]) for _ in range(chance.choice((0, 3, 12)))]
            row = " ".join(map(str, (steps, *words)))
            self.assertEqual(desk.say("run " + row), run_words(run(program, words, steps=steps)))
            self.assertEqual(desk.say("lean " + row), run_words(lean(program, safe_ones, words, steps)))

    def check_state(self, program, place, box, told, is_safe):
        """What is told of the place's look is none, or a state that lies in the box, word by word."""
        self.assertEqual(told == "none", is_safe)
        if is_safe:
            return
        state = {}
        for part in told.split(", ") if told != "any" else ():
            name, worth = part.split(" ")
            state[name] = () if worth == "-" else tuple(map(int, worth.split(":"))) if name in box[1] else int(worth)
        self.assertTrue(judging.lies_in(box, state))
        self.assertEqual(list(state), sorted(box[0]) + sorted(box[1]))
        self.assertTrue(judging.is_state(program, place[0], state))


class TestAnswers(DeskCase):
    def test_by_hand(self):
        desk = Desk()
        self.assertEqual(desk.say("program\n" + COUNT_TEXT), "ok")
        self.assertEqual(desk.say("table"), "main:0 n 0 5\nmain:1 n 0 4\nmain:2 n 1 5\nmain:3 n 5 5\nmain:4 nothing\nmain:5 nothing")
        self.assertEqual(desk.say("at main:1"), "n 0 4")
        self.assertEqual(desk.say("at main:5"), "nothing")
        self.assertEqual(desk.say("looks"), "main:1 great")
        self.assertEqual(desk.say("safe"), "main:1 great")
        self.assertEqual(desk.say("fails main:1"), "none")
        self.assertEqual(desk.say("run 100"), "none\nback 5\n17")
        self.assertEqual(desk.say("lean 100"), "none\nback 5\n17\n0")
        self.assertEqual(desk.say("run 4"), "none\nfault steps main:1\n4")
        self.assertEqual(desk.say("groups"), "main:0 main:1 main:2 reckoned new\nmain:3 reckoned new\nmain:4 main:5 reckoned new")

    def test_rows_and_rooms(self):
        desk = self.desk(BACKWARDS)
        self.assertEqual(desk.say("at main:0"), "n 0 0, p 0 0, x 0 0, a 0 0 -, p:a 0")
        self.assertEqual(desk.say("at main:5"), "n 1 12, p 0 11, x -12 12, a 1 12 -12:12, p:a -1")
        self.assertEqual(desk.say("looks"), "main:1 size\nmain:4 place\nmain:5 great\nmain:11 great\nmain:12 place")
        self.assertEqual(desk.say("safe"), "main:1 size\nmain:5 great\nmain:11 great\nmain:12 place")
        self.assertEqual(desk.say("run 200 3 4 -5 6"), "6 -5 4\nback 3\n35")
        self.assertEqual(desk.say("lean 200 3 4 -5 6"), "6 -5 4\nback 3\n35\n3")
        self.assertEqual(desk.say(row="lean 6 3 4 -5 6"), "none\nfault steps main:6\n6\n1")
        self.assertEqual(desk.say("lean 0"), "none\nfault steps main:0\n0\n0")
        self.assertRegex(desk.say("fails main:4"), "^n -?[0-9]+, p -?[0-9]+, x -?[0-9]+, a (-|-?[0-9]+(:-?[0-9]+)*)$")

    def test_states(self):
        desk = Desk()
        desk.say("program\nwidth 3\ndef main\nfingers p\nrows a b\n0 set x 2\n1 row b x\n2 set y -3\n3 put b p y\n"
                 "4 get x a p\n5 back x")
        self.assertEqual(desk.say("fails main:4"), "p 0, x 2, y -3, a -, b -3:-3")
        self.assertEqual(desk.say("at main:4"), "p 0 0, x 2 2, y -3 -3, a 0 0 -, b 2 2 -3:0, p:a 0, p:b -2")

    def test_without_names(self):
        desk = Desk()
        desk.say("program\nwidth 3\ndef main\n0 if 1 < 2 2\n1 go 1\n2 check 2 < 1\n3 go 3")
        self.assertEqual(desk.say("table"), "main:0 any\nmain:1 nothing\nmain:2 any\nmain:3 nothing")
        self.assertEqual((desk.say("at main:0"), desk.say("at main:1"), desk.say("fails main:2")), ("any", "nothing", "any"))
        self.assertEqual(desk.say("looks"), "main:2 check")
        self.assertEqual(desk.say("safe"), "none")
        self.assertEqual(desk.say("run 9"), "none\nfault check main:2\n2")
        self.assertEqual(desk.say("lean 9"), "none\nfault check main:2\n2\n1")
        desk.say("program\nwidth 3\ndef main\n0 go 0")
        self.assertEqual((desk.say("looks"), desk.say("safe")), ("none", "none"))

    def test_of_programs(self):
        for program in (*SAMPLES, RING, LOOP, *map(small_program, range(40)), *map(made_program, range(40))):
            self.check(self.desk(program), program)

    def test_of_loops(self):
        for text in (NESTED, *map(drawn_text, range(40))):
            desk = Desk()
            self.assertEqual(desk.say("loops\n" + text), "ok")
            self.check(desk, looping.program_of(text))

    def test_places_of_loops(self):
        desk = Desk()
        desk.say("loops\n" + one_def("  while n < 3", "    n = n + 1", "  back n"))
        self.assertEqual(desk.say("table"), "main:40 n 0 3\nmain:60 n 0 2\nmain:61 n 1 3\nmain:80 n 3 3")
        self.assertEqual(desk.say("run 3"), "none\nfault steps main:40\n3")

    def test_many_figures(self):
        desk = self.desk(BACKWARDS)
        self.assertEqual(desk.say("run " + "9" * 60 + " 1 5"), "5\nback 1\n15")
        self.no_row(desk, "run " + "9" * 61 + " 1 5")
        self.assertEqual(desk.say("lean " + "9" * 60 + " 1 5"), "5\nback 1\n15\n1")
        self.no_row(desk, "run 5 " + "9" * 60)


class TestEdits(DeskCase):
    def test_one_behind_the_other(self):
        """What is kept and what is reckoned, and why."""
        desk = self.desk(LOOP)
        program = LOOP
        edits = [with_step(LOOP, "main", 3, ("add", "n", "n", -2)), with_step(LOOP, "h", 5, ("tell", "v")),
                 with_step(LOOP, "h", 3, ("tell", "u")), LOOP, LOOP, (8, LOOP[1]), with_step(LOOP, "main", 0, ("ask", "n", 0, 4)),
                 RING, FACTORIAL, EVERY]
        causes = set()
        for other in edits:
            self.assertTrue(is_program(other))
            self.assertEqual(desk.say("program\n" + shown(other)), "ok")
            self.check(desk, other, program)
            causes |= {line.split("reckoned ")[-1].split(" ")[0] for line in desk.say("groups").split("\n")}
            causes |= {line.split(" ")[-1] for line in desk.say("groups").split("\n") if line.endswith("kept")}
            program = other
        self.assertLessEqual({"kept", "new", "width", "def", "first", "step", "from"}, causes)

    def test_words_of_causes(self):
        desk = self.desk(LOOP)
        desk.say("program\n" + shown(with_step(LOOP, "h", 3, ("tell", "u"))))
        self.assertEqual(desk.say("groups"), "f:0 f:1 main:1 main:2 main:3 main:4 kept\ng:0 g:1 kept\ng:2 kept\n"
                         "h:3 reckoned new\nh:5 reckoned first h\nh:6 kept\nmain:0 kept\nmain:5 kept\nmain:6 kept\nmain:7 kept")
        desk.say("program\n" + shown(with_step(LOOP, "main", 0, ("ask", "n", 0, 4))))
        lines = desk.say("groups").split("\n")
        self.assertIn("f:0 f:1 main:1 main:2 main:3 main:4 reckoned from main:0", lines)
        self.assertIn("main:0 reckoned step main:0", lines)
        desk.say("program\n" + shown(with_step(LOOP, "main", 5, ("tell", "z"))))
        self.assertIn("main:5 reckoned def main", desk.say("groups").split("\n"))
        desk.say("program\n" + shown((8, LOOP[1])))
        self.assertEqual({line.split(" ")[-1] for line in desk.say("groups").split("\n")}, {"width"})

    def test_loops_behind_programs(self):
        text = one_def("  while n < 3", "    n = n + 1", "  back n")
        desk = self.desk(led(text))
        self.assertEqual(desk.say("loops\n" + text), "ok")
        self.assertEqual({line.split(" ")[-1] for line in desk.say("groups").split("\n")}, {"kept"})
        desk.say("loops\n" + text.replace("n + 1", "n + 2"))
        self.assertEqual(desk.say("groups"), "main:40 main:60 main:61 reckoned step main:60\nmain:80 reckoned from main:40")

    def test_two_desks_by_turns(self):
        one, other = self.desk(BACKWARDS), Desk()
        self.no_row(other, "table")
        other.say("program\n" + COUNT_TEXT)
        self.check(one, BACKWARDS)
        self.assertEqual(other.say("at main:0"), "n 0 5")
        other.say("program\n" + shown(BACKWARDS))
        self.assertIn("main:10 main:11 main:12 main:13 main:14 reckoned new", other.say("groups"))
        one.say("program\n" + shown(BACKWARDS))
        self.assertEqual({line.split(" ")[-1] for line in one.say("groups").split("\n")}, {"kept"})


class TestRefused(DeskCase):
    ROWS = ("table", "looks", "safe", "groups", "at main:1", "fails main:4", "run 5", "lean 5", "run 5 1 2", "lean 5 1 2")

    def test_no_texts(self):
        desk = self.desk(BACKWARDS)
        for thing in THINGS:
            self.no_row(Desk(), thing)
            self.no_row(desk, thing)

    def test_ahead_of_a_program(self):
        desk = Desk()
        for row in (*self.ROWS, "at x", "run", "run -1", "nothing", ""):
            self.no_row(desk, row)
        self.refused(desk, "program\nwidth 9", NoText, "row", 1)
        for row in self.ROWS:
            self.no_row(desk, row)
        self.assertEqual(desk.say("program\n" + COUNT_TEXT), "ok")
        self.assertEqual(desk.say("at main:1"), "n 0 4")

    def test_rows_otherwise(self):
        """A word too many, too few, another one; blanks and line feeds too many."""
        desk = self.desk(BACKWARDS)
        before = self.answers(desk)
        for row in self.ROWS:
            desk.say(row)
            for other in (row + " ", " " + row, row + "\n", "\n" + row, row.replace(" ", "  "), row + " x", row + "x", row.upper(),
                          row + " main:1", "x " + row, row.replace("e", "ee") + "e"):
                if other not in self.ROWS:
                    self.no_row(desk, other)
        for row in ("", " ", "\n", "at", "fails", "run", "lean", "at main", "at main:", "at :1", "at main:1:1", "at main 1", "at 1:main",
                    "table 1", "at main:1 main:2", "program", "loops", "program ", "loops x", " program\n" + COUNT_TEXT,
                    "program \n" + COUNT_TEXT, "program x\n" + COUNT_TEXT, "text\n" + COUNT_TEXT, "Program\n" + COUNT_TEXT,
                    "program\\n" + COUNT_TEXT, COUNT_TEXT, "run x", "run 5 x", "run 5 1 x", "lean x", "group", "box main:1"):
            self.no_row(desk, row)
        self.assertEqual(self.answers(desk), before)

    def test_places(self):
        desk = self.desk(BACKWARDS)
        for word in ("at ", "fails "):
            for label in ("10000", "-1", "01", "00", "-0", "+1", "1.0", "", "x", "1 ", "9" * 60, "9" * 61, "0x1", "1_0"):
                self.no_row(desk, word + "main:" + label)
            for name in ("", "Main", "mains", "ma1n", "1", "m n", "main:", "m-n"):
                self.no_row(desk, word + name + ":1")
            for place in (("main", 7), ("main", 9999), ("f", 1), ("abcd", 0)):
                self.refused(desk, word + place_words(place), NoPlace, "place", place)
        for label in (0, 2, 3, 6, 10, 13, 14, 20):
            self.refused(desk, f"fails main:{label}", NoPlace, "place", ("main", label))
            self.assertNotEqual(desk.say(f"at main:{label}"), "")

    def test_numbers(self):
        desk = self.desk(BACKWARDS)
        for head in ("run ", "lean "):
            for steps in ("-1", "01", "-0", "+1", "", "x", "1.0", "9" * 61, "1,000"):
                self.no_row(desk, head + steps)
                self.no_row(desk, head + steps + " 1")
            for word in ("13", "-13", "01", "-0", "+1", "", "x", "-", "9" * 61):
                self.no_row(desk, head + "5 " + word)
                self.no_row(desk, head + "5 1 " + word)
                self.no_row(desk, head + "5 " + word + " 1")
            for word in ("12", "-12", "0"):
                desk.say(head + "5 " + word)
        # The words are those of the width that stands.
        desk.say("program\n" + COUNT_TEXT)
        self.no_row(desk, "run 5 12")
        desk.say("run 5 9 -9")

    def test_texts_that_write_none(self):
        """The field is what read and led tell; behind them all answers stay."""
        desk = self.desk(BACKWARDS)
        before = self.answers(desk)
        for row, error, field, worth in (
            ("program\n", NoText, "row", 0), ("loops\n", NoText, "row", 0), ("program\nwidth 9", NoText, "row", 1),
            ("loops\nwidth 9\n", NoText, "row", 1), ("program\n" + COUNT_TEXT + "\n", NoText, "row", 8),
            ("program\n\n" + COUNT_TEXT, NoText, "row", 0), ("loops\n" + EVERY_TEXT, NoText, "row", 2),
            ("program\n" + NESTED, NoText, "row", 2), ("program\n" + COUNT_TEXT.replace("add n n 1", "add n n"), NoText, "row", 3),
            ("program\n" + COUNT_TEXT.replace("go 0", "go 9"), NoProgram, "spot", (0, 2)),
            ("program\n" + COUNT_TEXT.replace("main", "mine"), NoProgram, "spot", (None, None)),
            ("program\n" + COUNT_TEXT.replace("width 9", "width 32"), NoProgram, "spot", (None, None)),
            ("program\n" + COUNT_TEXT.replace("5 go 4", "10000 go 4"), NoProgram, "spot", (0, 5)),
            ("loops\n" + one_def("  x = 3 ", "  back x"), NoText, "row", 2), ("loops\n" + one_def("  x = 3"), NoText, "row", 3),
            ("loops\n" + one_def("  x = 10", "  back x"), NoProgram, "spot", (0, 0)),
            ("loops\n" + one_def("  x = f ( )", "  back x"), NoProgram, "spot", (0, 0)),
        ):
            self.refused(desk, row, error, field, worth)
            self.refused(Desk(), row, error, field, worth)
            self.assertEqual(self.answers(desk), before)
            self.assertEqual(desk.say("run 200 1 5"), "5\nback 1\n15")
        desk.say("program\n" + shown(BACKWARDS))
        self.assertEqual({line.split(" ")[-1] for line in desk.say("groups").split("\n")}, {"kept"})

    def test_drawn_rows(self):
        """Rows whose words are left out, told twice or others are answered, or refused, and change nothing."""
        desk = self.desk(BACKWARDS)
        before = self.answers(desk)
        words = ("table", "looks", "safe", "groups", "at", "fails", "run", "lean", "main:1", "main:4", "main:5", "5", "0", "-1", "3",
                 "", "x", "13", "program")
        chance = random.Random(3)
        answered = 0
        for _ in range(3000):
            row = " ".join(chance.choice(words) for _ in range(chance.choice((1, 1, 2, 2, 3, 4))))
            head, *rest = row.split(" ")
            so = head in ("table", "looks", "safe", "groups") and not rest
            so = so or head == "at" and rest in (["main:1"], ["main:4"], ["main:5"])
            so = so or head == "fails" and rest in (["main:1"], ["main:4"], ["main:5"])
            so = so or head in ("run", "lean") and rest[:1] in (["5"], ["0"], ["3"], ["13"]) and all(
                word in ("5", "0", "-1", "3") for word in rest[1:])
            if so:
                self.assertIsInstance(desk.say(row), str)
                answered += 1
            else:
                self.no_row(desk, row)
        self.assertGreater(answered, 200)
        self.assertEqual(self.answers(desk), before)


if __name__ == "__main__":
    unittest.main()
