"""The texts of programs, shown and read (point 19)."""

import random
import unittest

import oracle
from samples import EVERY, EVERY_TEXT, FACTORIAL, SAMPLES, THINGS, made_program
from withinall.errors import NoProgram, NoText
from withinall.programs import need_program
from withinall.texts import read, shown

LEAST_TEXT = "width 1\ndef main\n0 go 0"
LEAST = (1, (("main", (), (), (), ((0, ("go", 0)),)),))
ACTS = tuple(row.split(" ", 1)[1] for row in EVERY_TEXT.split("\n") if row[0].isdigit())
SIXTY = "1" + "0" * 59


def text_of(*rows):
    return "\n".join(rows)


class TextCase(unittest.TestCase):
    def no_text(self, text, row):
        with self.assertRaises(NoText) as caught:
            read(text)
        self.assertIs(type(caught.exception.row), int)
        self.assertEqual(caught.exception.row, row, text)
        if isinstance(text, str):
            self.assertEqual(oracle.wrong_row(text), row, text)

    def no_program(self, text, *spot):
        self.assertIsNone(oracle.wrong_row(text), text)
        with self.assertRaises(NoProgram) as caught:
            read(text)
        self.assertEqual(caught.exception.spot, spot, text)

    def compare(self, text):
        """Read the text as the oracle has it; tell whether its rows are so."""
        row = oracle.wrong_row(text)
        if row is not None:
            self.no_text(text, row)
            return False
        try:
            program = read(text)
        except NoProgram as refused:
            self.assertIsNotNone(refused.spot)
        else:
            self.assertIsNone(oracle.wrong_spot(program))
            self.assertEqual(shown(program), text)
        return True


class TestShown(TextCase):
    def test_every_act(self):
        self.assertEqual(shown(EVERY), EVERY_TEXT)
        self.assertEqual(shown(program=LEAST), LEAST_TEXT)

    def test_heads_only_where_there_are_such(self):
        step = ((0, ("back", "n")),)
        for params in ((), ("n",), ("n", "p", "a", "m")):
            for fingers in ((), ("p",), ("p", "q", "r")):
                for rows in ((), ("a",), ("a", "b")):
                    program = (31, (("f", params, fingers, rows, step), ("main", (), (), (), step)))
                    if params[1:] and not (fingers and rows):
                        continue
                    need_program(program)
                    told = ["width 31", " ".join(("def", "f") + params)]
                    if fingers:
                        told.append("fingers " + " ".join(fingers))
                    if rows:
                        told.append("rows " + " ".join(rows))
                    told += ["0 back n", "def main", "0 back n"]
                    self.assertEqual(shown(program), "\n".join(told))
                    self.assertEqual(read("\n".join(told)), program)

    def test_calls(self):
        self.assertIn("2 call k fac m\n", shown(FACTORIAL))
        self.assertIn("101 call x main\n", shown(EVERY))

    def test_names_like_the_texts_own_words(self):
        text = text_of("width 3", "def def rows", "rows rows", "0 row rows set", "1 call go def rows",
                       "2 call if main", "3 back call", "def main", "fingers def", "0 if def < set 0", "1 back back")
        self.assertEqual(shown(read(text)), text)


class TestRead(TextCase):
    def test_what_was_shown(self):
        for program in (*SAMPLES, LEAST, *(made_program(seed) for seed in range(300))):
            text = shown(program)
            self.assertIsNone(oracle.wrong_row(text))
            self.assertEqual(read(text), program)
            self.assertEqual(read(text=text), program)
            self.assertEqual(repr(read(text)), repr(program))

    def test_no_text(self):
        for thing in (*THINGS, b"width 1\ndef main\n0 go 0", [LEAST_TEXT], LEAST, EVERY):
            if not isinstance(thing, str):
                self.no_text(thing, 0)
            elif thing:
                self.no_text(thing, 0)
        self.no_text("", 0)
        self.no_text("\n", 0)
        self.no_text(" ", 0)

    def test_what_is_lacking(self):
        self.no_text("width 5", 1)
        self.no_text("width 5\ndef main", 2)
        self.no_text("width 5\ndef main\nfingers p", 3)
        self.no_text("width 5\ndef main\nrows a", 3)
        self.no_text("width 5\ndef main\nfingers p\nrows a", 4)
        self.no_text(LEAST_TEXT + "\ndef f", 4)
        self.no_text(LEAST_TEXT + "\ndef f x\nrows x", 5)

    def test_line_feeds(self):
        self.no_text(LEAST_TEXT + "\n", 3)
        self.no_text(LEAST_TEXT + "\n\n", 3)
        self.no_text("\n" + LEAST_TEXT, 0)
        self.no_text("width 1\n\ndef main\n0 go 0", 1)
        self.no_text("width 1\ndef main\n\n0 go 0", 2)
        self.no_text("width 1\ndef main\n0 go 0\n\n1 go 0", 3)
        self.no_text("width 1\r\ndef main\n0 go 0", 0)

    def test_blanks(self):
        rows = EVERY_TEXT.split("\n")
        for number, row in enumerate(rows):
            blanks = [" " + row, row + " ", row.replace(" ", "  ", 1), row.replace(" ", "\t", 1), row.replace(" ", "")]
            last = "  ".join(row.rsplit(" ", 1))
            for other in (*blanks, last, "", " "):
                self.no_text(text_of(*rows[:number], other, *rows[number + 1:]), number)

    def test_width_row(self):
        for row in ("width", "width 1 1", "width x", "Width 1", "with 1", "1", "width 01", "width -0", "width +1",
                    "width 1.0", "width 1_0", "width --1", "width -", "width 1-", "width 0x1"):
            self.no_text(text_of(row, "def main", "0 go 0"), 0)
        for width in ("0", "-1", "32", SIXTY, "-" + SIXTY):
            self.no_program(text_of("width " + width, "def main", "0 go 0"), None, None)
        for width in ("1" + SIXTY, "-1" + SIXTY, "9" * 61):
            self.no_text(text_of("width " + width, "def main", "0 go 0"), 0)

    def test_heads(self):
        for row in ("def", "def Main", "def main x1", "def abcde", "def main <", "Def main", "main", "fingers p",
                    "0 go 0", "rows a", "def main 5", "def main -1", "define main"):
            self.no_text(text_of("width 1", row, "0 go 0"), 1)
        for row in ("fingers", "rows", "fingers P", "rows abcde", "fingers p 1", "rows a ,", "finger p", "row a",
                    "width 1", "def f"):
            self.no_text(text_of("width 1", "def main", row, "0 go 0"), 2)

    def test_heads_in_their_order(self):
        self.no_text("width 1\ndef main\nrows a\nfingers p\n0 go 0", 3)
        self.no_text("width 1\ndef main\nfingers p\nfingers q\n0 go 0", 3)
        self.no_text("width 1\ndef main\nrows p\nrows q\n0 go 0", 3)
        self.no_text("width 1\ndef main\n0 go 0\nrows a", 3)
        self.no_text("width 1\ndef main\n0 go 0\nfingers a", 3)
        self.no_text("def main\nwidth 1\n0 go 0", 0)
        self.no_text("width 1\nwidth 1\ndef main\n0 go 0", 1)
        self.no_text("width 1\ndef main\n0 go 0\nwidth 1", 3)
        self.no_text("width 1\nfingers p\ndef main\n0 go 0", 1)

    def test_numbers(self):
        for number in ("0", "5", "-5", "10", SIXTY, "-" + SIXTY, "9" * 60):
            for row in (f"{number} go 0", f"0 go {number}", f"0 set x {number}", f"0 ask x {number} 0",
                        f"0 if {number} < {number} 0", f"0 check {number} <= x", f"0 add x x {number}"):
                self.assertTrue(self.compare(text_of("width 5", "def main", row, "9 back x")))
        for number in ("00", "01", "-0", "-00", "-01", "+1", "", "-", "--1", "1-", "1 1", "1.", "0x1", "1e1", "1_0",
                       SIXTY + "0", "-" + SIXTY + "0", "0" * 60, "9" * 61, "9" * 5000, "\u0661", "\u00b2"):
            for row in (f"{number} go 0", f"0 go {number}", f"0 set x {number}", f"0 ask x {number} 0",
                        f"0 ask x 0 {number}", f"0 if {number} < x 0", f"0 check x <= {number}", f"0 add x x {number}"):
                self.no_text(text_of("width 5", "def main", row, "9 back x"), 2)

    def test_words_of_acts_left_out_told_twice_and_others(self):
        others = ("x", "0", "-7", "<", "<=", "abcde", ">", "X", "", "main", "back", "width", "1x", "x,")
        for act in ACTS:
            words = ("3 " + act).split(" ")
            for at in range(len(words)):
                rows = [words[:at] + words[at + 1:], words[:at] + words[at:at + 1] + words[at:]]
                rows += [words[:at] + [other] + words[at + 1:] for other in others]
                for row in rows:
                    self.compare(text_of("width 9", "def main", " ".join(row), "9 back x"))

    def test_sorts_of_words(self):
        for row in ("0 set x y", "0 set 1 1", "0 set x", "0 set x 1 1", "0 add x y z", "0 add x 1 1", "0 plus x y 1",
                    "0 mid x y 1", "0 row a 3", "0 get x a 0", "0 put a 0 x", "0 put a x 0", "0 length x 1",
                    "0 ask x y 1", "0 ask x 1 y", "0 ask x 1", "0 tell 1", "0 tell", "0 tell x y", "0 check x = y",
                    "0 check x > y", "0 check x y", "0 check < < <", "0 if x < y", "0 if x < y z", "0 if x < y 1 1",
                    "0 go x", "0 go", "0 go 1 1", "0 call x", "0 call", "0 call x f 1", "0 call 1 f", "0 call x 1",
                    "0 back 1", "0 back", "0 back x y", "x back x", "0", "back x", "0 0 back x", "0 BACK x", "0 let x 1"):
            self.no_text(text_of("width 9", "def main", "0 tell x", row, "9 back x"), 3)

    def test_right_words_that_write_no_program(self):
        def main(*rows):
            return text_of("width 5", "def main", *rows)
        self.no_program(main("0 set x 6", "1 back x"), 0, 0)
        self.no_program(main("0 tell x", "-1 back x"), 0, 1)
        self.no_program(main("0 tell x", "10000 back x"), 0, 1)
        self.no_program(main("0 tell x", "0 back x"), 0, 1)
        self.no_program(main("0 go 1"), 0, 0)
        self.no_program(main("0 go 10000", "1 set x 6"), 0, 0)
        self.no_program(main("0 tell x"), 0, 0)
        self.no_program(main("0 call x f", "1 back x"), 0, 0)
        self.no_program(main("0 call x main x", "1 back x"), 0, 0)
        self.no_program(main("0 row a x", "1 back x"), 0, 0)
        self.no_program(main("fingers q p", "0 back x"), 0, None)
        self.no_program(main("fingers p q r s", "0 back x"), 0, None)
        self.no_program(main("rows a b c", "0 back x"), 0, None)
        self.no_program(main("rows a a", "0 back x"), 0, None)
        self.no_program(main("fingers a", "rows a", "0 back x"), 0, None)
        self.no_program(main(*(f"{label} back x" for label in range(31))), 0, None)
        self.no_program(main("0 plus a b c", "1 plus d e f", "2 back g"), 0, None)
        self.no_program("width 5\ndef main x\n0 back x", None, None)
        self.no_program("width 5\ndef f\n0 back x", None, None)
        self.no_program("width 5\ndef main\n0 back x\ndef f x x\n0 back x", 1, None)
        self.no_program("width 5\ndef main\n0 back x\ndef main\n0 back x", 1, None)
        self.no_program("width 5" + "\ndef main\n0 back x" * 7, None, None)

    def test_words_go_ahead_of_programs(self):
        self.no_text("width 99\ndef f\n0 set x 600\n5 go y", 3)
        self.no_text("width 99\ndef f\n0 set x 600\ndef g", 4)

    def test_thirty_steps_and_six_defs(self):
        steps = tuple((label, ("back", "x")) for label in range(30))
        program = (3, tuple((name, (), (), (), steps) for name in ("main", "a", "b", "c", "d", "e")))
        self.assertEqual(read(shown(program)), program)

    def test_texts_cut_anywhere(self):
        for text in (EVERY_TEXT, shown(FACTORIAL)):
            for at in range(len(text)):
                self.compare(text[:at])
                self.compare(text[at:])
                self.compare(text[:at] + text[at + 1:])

    def test_rows_left_out_doubled_and_elsewhere(self):
        for program in SAMPLES:
            rows = shown(program).split("\n")
            for at, row in enumerate(rows):
                rest = rows[:at] + rows[at + 1:]
                self.compare(text_of(*rest))
                for to in range(len(rows) + 1):
                    self.compare(text_of(*rest[:to], row, *rest[to:]))
                    self.compare(text_of(*rows[:to], row, *rows[to:]))

    def test_signs_put_anywhere(self):
        chance = random.Random(19)
        so = 0
        for _ in range(6000):
            text = shown(made_program(chance.randint(0, 99)))
            for _ in range(chance.randint(1, 2)):
                at = chance.randint(0, len(text))
                text = text[:at] + chance.choice("0159- \n<=azx~") + text[at + chance.randint(0, 1):]
            so += self.compare(text)
        self.assertGreater(so, 100)


if __name__ == "__main__":
    unittest.main()
