"""Texts of loops and the programs that they write (point 20)."""

import random
import unittest

import looping
import oracle
from drawn import drawn_text
from samples import EVERY_TEXT, THINGS
from withinall.errors import NoProgram, NoText, WithinError
from withinall.loops import led
from withinall.programs import is_program

NESTED = """width 9
def main
  n = ask 0 9
  while 0 < n
    if n <= 4
      tell n
    else
      x = 3
    n = n - 1
  y = f ( n )
  back y
def f u
  fingers p
  rows a b
  if u < 5
    back u
  p = length a
  back u"""


def one_def(*lines, width=9, head="def main"):
    """A text of one def with these lines."""
    return "\n".join((f"width {width}", head, *lines))


class LoopsCase(unittest.TestCase):
    def check(self, text):
        """What is told of the text is what the promise has; None where it is refused."""
        row = looping.wrong_line(text)
        if row is not None:
            self.refused(text, row)
            return None
        program = looping.program_of(text)
        spot = oracle.wrong_spot(program)
        if spot is not None:
            with self.assertRaises(NoProgram) as caught:
                led(text)
            self.assertEqual(caught.exception.spot, spot, text)
            return None
        told = led(text)
        self.assertEqual(told, program, text)
        self.assertTrue(is_program(told))
        return told

    def refused(self, text, row):
        with self.assertRaises(NoText) as caught:
            led(text)
        self.assertEqual(caught.exception.row, row, text)
        self.assertIsInstance(caught.exception, WithinError)

    def acts(self, *lines, head="def main"):
        """The acts by labels of a def of these lines, behind which a back of x stands."""
        told = self.check(one_def(*lines, "  back x", head=head))
        self.assertIsNotNone(told, lines)
        return dict(told[1][0][4][:-1])


class TestLines(LoopsCase):
    def test_each_kind_of_line(self):
        acts = self.acts("  fingers p q", "  rows a b", "  x = -3", "  x = y + 4", "  p = q - 1", "  x = y - 0", "  x = y + z",
                         "  x = y - z", "  x = y * z", "  x = y // z", "  x = y rest z", "  p = mid p q", "  x = length a",
                         "  x = a [ p ]", "  a [ p ] = y", "  b = row y", "  z = ask -3 4", "  tell p", "  check x < 4",
                         "  x = main ( )")
        told = [("set", "x", -3), ("add", "x", "y", 4), ("add", "p", "q", -1), ("add", "x", "y", 0), ("plus", "x", "y", "z"),
                ("minus", "x", "y", "z"), ("times", "x", "y", "z"), ("over", "x", "y", "z"), ("rest", "x", "y", "z"),
                ("mid", "p", "p", "q"), ("length", "x", "a"), ("get", "x", "a", "p"), ("put", "a", "p", "y"),
                ("row", "b", "y"), ("ask", "z", -3, 4), ("tell", "p"), ("check", "x", "<", 4), ("call", "x", "main", ())]
        self.assertEqual(acts, {20 * (4 + at): act for at, act in enumerate(told)})

    def test_heads_of_defs(self):
        told = self.check("width 3\ndef f a p u\n  fingers p\n  rows a\n  back u\ndef main\n  rows b\n  back x")
        self.assertEqual(told, (3, (("f", ("a", "p", "u"), ("p",), ("a",), ((80, ("back", "u")),)),
                                    ("main", (), (), ("b",), ((140, ("back", "x")),)))))
        self.assertEqual(led(text="width 31\ndef main\n  back x"), (31, (("main", (), (), (), ((40, ("back", "x")),)),)))

    def test_calls(self):
        told = self.check("width 3\ndef main\n  rows a\n  x = f ( a y x )\n  back x\ndef f a u v\n  rows a\n  back u")
        self.assertEqual(told[1][0][4][0], (60, ("call", "x", "f", ("a", "y", "x"))))

    def test_ifs(self):
        for sign, contrary in (("<", "<="), ("<=", "<")):
            self.assertEqual(self.acts(f"  if x {sign} 3", "    tell x", "  tell y"),
                             {40: ("if", 3, contrary, "x", 80), 60: ("tell", "x"), 80: ("tell", "y")})
            self.assertEqual(self.acts(f"  if -1 {sign} x", "    tell x", "  else", "    tell y", "    tell z", "  tell u"),
                             {40: ("if", "x", contrary, -1, 100), 60: ("tell", "x"), 80: ("go", 140), 100: ("tell", "y"),
                              120: ("tell", "z"), 140: ("tell", "u")})
        self.assertEqual(self.acts("  if 1 < 2", "    tell x"), {40: ("if", 2, "<=", 1, 80), 60: ("tell", "x")})

    def test_whiles(self):
        self.assertEqual(self.acts("  while x <= y", "    tell x", "    tell y", "  tell z"),
                         {40: ("if", "y", "<", "x", 100), 60: ("tell", "x"), 80: ("tell", "y"), 81: ("go", 40),
                          100: ("tell", "z")})

    def test_one_in_another(self):
        self.assertEqual(self.acts("  while x < 1", "    while x < 2", "      if x < 3", "        tell x"),
                         {40: ("if", 1, "<=", "x", 120), 60: ("if", 2, "<=", "x", 102), 80: ("if", 3, "<=", "x", 101),
                          100: ("tell", "x"), 101: ("go", 60), 102: ("go", 40)})
        self.assertEqual(self.acts("  if x < 1", "    if x < 2", "      tell x", "  else", "    while x < 3", "      tell x"),
                         {40: ("if", 1, "<=", "x", 120), 60: ("if", 2, "<=", "x", 100), 80: ("tell", "x"), 100: ("go", 160),
                          120: ("if", 3, "<=", "x", 160), 140: ("tell", "x"), 141: ("go", 120)})
        self.assertEqual(self.acts("  while x < 1", "    if x < 2", "      tell x", "    else", "      tell y"),
                         {40: ("if", 1, "<=", "x", 140), 60: ("if", 2, "<=", "x", 120), 80: ("tell", "x"), 100: ("go", 121),
                          120: ("tell", "y"), 121: ("go", 40)})
        self.assertEqual(self.acts("  if x < 1", "    while x < 2", "      tell x", "  else", "    tell y"),
                         {40: ("if", 1, "<=", "x", 120), 60: ("if", 2, "<=", "x", 100), 80: ("tell", "x"), 81: ("go", 60),
                          100: ("go", 140), 120: ("tell", "y")})

    def test_backs_within(self):
        self.assertEqual(self.acts("  while x < 1", "    back y", "  back z"),
                         {40: ("if", 1, "<=", "x", 80), 60: ("back", "y"), 61: ("go", 40), 80: ("back", "z")})

    def test_names_like_words_of_acts(self):
        for name in ("set", "add", "plus", "over", "get", "put", "go", "call", "main", "x", "abcd", "time", "no", "els", "mi",
                     "as", "ro", "roww", "deff", "iff", "re"):
            acts = self.acts(f"  {name} = {name} + {name}", f"  tell {name}", f"  x = {name} // x", f"  x = mid {name} {name}")
            self.assertEqual(acts[40], ("plus", name, name, name))
        self.assertIsNotNone(self.check(f"width 3\ndef over put\n  back put\ndef main\n  get = over ( get )\n  back set"))

    def test_words_that_are_no_names(self):
        for name in ("def", "rows", "mid", "ask", "row", "tell", "back", "if", "else", "rest", "X", "abcde", "", "a1", "1",
                     "while", "width", "check", "length", "fingers", "-", "["):
            for at, lines in ((1, [f"def {name}"]), (1, [f"def main {name}"]), (2, ["def main", f"  fingers {name}"]),
                              (2, ["def main", f"  rows a {name}"]), (2, ["def main", f"  {name} = 3"]),
                              (2, ["def main", f"  x = {name} - y"]), (2, ["def main", f"  x = mid y {name}"]),
                              (2, ["def main", f"  x = {name} ( )"]), (2, ["def main", f"  x = f ( y {name} )"]),
                              (2, ["def main", f"  tell {name}"]), (2, ["def main", f"  back {name}"]),
                              (2, ["def main", f"  x = length {name}"]), (2, ["def main", f"  {name} = row x"]),
                              (2, ["def main", f"  a [ {name} ] = x"]), (2, ["def main", f"  x = {name} [ y ]"])):
                text = "\n".join(("width 9", *lines, "  back x"))
                if looping.wrong_line(text) is not None:
                    self.refused(text, at)
                self.check(text)
        for name in ("def", "rows", "mid", "ask", "row", "tell", "back", "if", "else", "rest"):
            self.refused(f"width 9\ndef main\n  {name} = 3\n  back x", 2)
            self.refused(f"width 9\ndef main\n  check {name} < 3\n  back x", 2)
            self.refused(f"width 9\ndef {name}\n  back x", 1)

    def test_numbers(self):
        """As in texts of programs; behind + and - from 0 on."""
        great = "9" * 60
        for word, so in (("0", True), ("-1", True), ("7", True), ("00", False), ("01", False), ("-0", False), ("+1", False),
                         ("--1", False), ("1.0", False), ("", False), ("1_0", False), (great, True), ("-" + great, True),
                         (great + "9", False), ("-", False), ("1 ", False)):
            for line in ("x = {}", "x = ask {} 3", "x = ask -9 {}", "check {} < x", "if x <= {}", "while {} < {}"):
                text = one_def("  " + line.replace("{}", word), *(["    tell x"] if line[0] in "iw" else []), "  back x")
                self.assertEqual(looping.wrong_line(text), None if so else 2, text)
                self.check(text)
            for sign in "+-":
                text = one_def(f"  x = y {sign} {word}", "  back x")
                self.assertEqual(looping.wrong_line(text) is None, so and not word.startswith("-"))
                self.check(text)
            self.check(f"width {word}\ndef main\n  back x")
        for width in (-1, 0, 1, 31, 32):
            self.check(f"width {width}\ndef main\n  back x")


class TestDepths(LoopsCase):
    def nested(self, deep, word="if", inner="tell x"):
        """Heads one in another, so that the innermost line stands so deep."""
        heads = [f"{'  ' * (at + 1)}{word} x < {at % 9}" for at in range(deep - 1)]
        return one_def(*heads, "  " * deep + inner, "  back x")

    def test_thirty_deep(self):
        self.assertIsNotNone(self.check(self.nested(28)))
        # As many steps as a def may have; then too many of them; then a line that stands too deep.
        self.assertIsNotNone(self.check(self.nested(29)))
        with self.assertRaises(NoProgram) as caught:
            led(self.nested(30))
        self.assertEqual(caught.exception.spot, (0, None))
        self.refused(self.nested(31), 32)
        self.refused(self.nested(32), 32)
        self.refused(self.nested(31, "while"), 32)
        self.check(self.nested(30, "while"))
        # The head itself may stand thirty deep, but nothing in it.
        self.refused(self.nested(30, "if", "if x < 1"), 32)

    def test_whiles_one_in_another(self):
        for deep in range(1, 19):
            told = self.check(self.nested(deep, "while"))
            self.assertEqual(told is not None, deep <= 15)
        last = self.check(self.nested(15, "while"))[1][0][4]
        self.assertEqual([label for label, _ in last[15:29]], [20 * 16 + at for at in range(1, 15)])

    def test_between_depths(self):
        lines = NESTED.split("\n")
        for at, line in enumerate(lines):
            for other in (" " + line, "  " + line, "   " + line, "    " + line, line[1:], line[2:], line + " ", line.strip(),
                          "\t" + line, line.replace(" = ", "  = "), line.replace(" ", "  ")):
                self.check("\n".join([*lines[:at], other, *lines[at + 1:]]))
            if line.startswith(" "):
                self.refused("\n".join([*lines[:at], line[1:], *lines[at + 1:]]), at)
            self.refused("\n".join([*lines[:at], " " + line, *lines[at + 1:]]), at)

    def test_heads_need_lines(self):
        for head in ("if x < 1", "while x < 1"):
            self.refused(one_def("  " + head, "  back x"), 3)
            self.refused(one_def("  " + head), 3)
            self.refused(one_def("  " + head, "      tell x", "  back x"), 3)
            self.refused(one_def("  " + head, "def f", "  back x"), 3)
            self.refused(one_def("  " + head, "    tell x", "      tell x", "  back x"), 4)
        self.refused(one_def("  if x < 1", "    tell x", "  else", "  back x"), 5)
        self.refused(one_def("  if x < 1", "    tell x", "  else"), 5)
        self.refused(one_def("  tell x", "    tell x", "  back x"), 3)

    def test_elses(self):
        """An else belongs to the if whose lines it follows."""
        self.refused(one_def("  else", "    tell x", "  back x"), 2)
        self.refused(one_def("  tell x", "  else", "    tell x", "  back x"), 3)
        self.refused(one_def("  if x < 1", "  else", "    tell x", "  back x"), 3)
        self.refused(one_def("  if x < 1", "    else", "      tell x", "  back x"), 3)
        self.refused(one_def("  while x < 1", "    tell x", "  else", "    tell x", "  back x"), 4)
        self.refused(one_def("  if x < 1", "    tell x", "  tell x", "  else", "    tell x", "  back x"), 5)
        self.refused(one_def("  if x < 1", "    tell x", "  else", "    tell x", "  else", "    tell x", "  back x"), 6)
        self.refused(one_def("  if x < 1", "    while x < 1", "      tell x", "    else", "      tell x", "  back x"), 5)
        self.assertIsNotNone(self.check(one_def("  if x < 1", "    while x < 1", "      tell x", "  else", "    tell x", "  back x")))
        self.assertIsNotNone(self.check(one_def("  if x < 1", "    if x < 1", "      tell x", "    else", "      tell x", "  else",
                                                "    tell x", "  back x")))

    def test_the_last_line(self):
        """The last line of a def that is one deep is a back; else the line behind isn't so."""
        self.refused("width 9\ndef main", 2)
        self.refused("width 9\ndef main\ndef f\n  back x", 2)
        self.refused("width 9\ndef main\n  tell x", 3)
        self.refused("width 9\ndef main\n  tell x\ndef f\n  back x", 3)
        self.refused("width 9\ndef main\n  back x\n  tell x", 4)
        self.refused("width 9\ndef main\n  if x < 1\n    back x", 4)
        self.refused("width 9\ndef main\n  back x\n  while x < 1\n    back x\ndef f\n  back x", 5)
        self.refused("width 9\ndef main\n  fingers p\n  rows a", 4)
        self.refused("width 9\ndef main\n  back x\n", 3)
        self.refused("width 9\ndef main\n  back x\n\ndef f\n  back x", 3)
        self.assertIsNotNone(self.check("width 9\ndef main\n  back x\n  tell x\n  back x"))

    def test_fingers_and_rows(self):
        for lines, at in ((("  rows a", "  fingers p"), 3), (("  fingers p", "  fingers q"), 3), (("  rows a", "  rows b"), 3),
                          (("  tell x", "  fingers p"), 3), (("  fingers",), 2), (("  rows",), 2), (("fingers p",), 2),
                          (("    fingers p",), 2), (("  fingers p", "    rows a"), 3), (("  fingers p", "rows a"), 3),
                          (("  if x < 1", "    rows a"), 3), (("  fingers p 3",), 2), (("  fingers p ",), 2)):
            self.refused(one_def(*lines, "  back x"), at)
        for lines in (("  fingers q p",), ("  fingers p p",), ("  rows a a",), ("  rows b a",), ("  fingers p", "  rows p"),
                      ("  fingers p q r s",), ("  rows a b c",)):
            with self.assertRaises(NoProgram) as caught:
                led(one_def(*lines, "  back x"))
            self.assertEqual(caught.exception.spot, (0, None))


class TestRefused(LoopsCase):
    def test_no_texts(self):
        for thing in THINGS:
            if isinstance(thing, str):
                self.refused(thing, 0)
            else:
                with self.assertRaises(NoText) as caught:
                    led(thing)
                self.assertEqual(caught.exception.row, 0)
        self.refused("", 0)
        self.refused("\n", 0)
        self.refused("width 9", 1)
        self.refused("width 9\n", 1)
        self.refused(EVERY_TEXT, 2)

    def test_width_and_defs(self):
        for row in ("width", "width x", "width 9 9", " width 9", "  width 9", "width  9", "Width 9", "width 9 ", "def main"):
            self.refused(f"{row}\ndef main\n  back x", 0)
        for row in ("def", "def ", "  def main", " def main", "def main 3", "def main  x", "main", "width 9", "  back x", "def Main"):
            self.refused(f"width 9\n{row}\n  back x", 1)
            if row != "  back x":
                self.refused(f"width 9\ndef main\n  back x\n{row}\n  back y", 3)

    def test_as_programs(self):
        """Then as a program is let by: the spot tells which def and which step."""
        for text, spot in (
            (one_def("  back x", head="def f"), (None, None)), (one_def("  back x", head="def main x"), (None, None)),
            (one_def("  back x", width=32), (None, None)), (one_def("  x = 10", "  back x"), (0, 0)),
            (one_def("  tell x", "  check x < 10", "  back x"), (0, 1)), (one_def("  x = y + 10", "  back x"), (0, 0)),
            (one_def("  rows a", "  tell x", "  tell a", "  back x"), (0, 1)), (one_def("  x = length y", "  back x"), (0, 0)),
            (one_def("  fingers p", "  p = x + 1", "  back x"), (0, 0)), (one_def("  x = ask 3 1", "  back x"), (0, 0)),
            (one_def("  while x < 1", "    tell x", "  x = f ( )", "  back x"), (0, 3)),
            (one_def("  x = main ( x )", "  back x"), (0, 0)),
            (one_def("  tell x", "  back x", "def main", "  back x"), (1, None)),
            (one_def(*["  tell x"] * 30, "  back x"), (0, None)),
            (one_def("  check a < b", "  check c < d", "  check e < f", "  back g"), (0, None)),
            ("\n".join(("width 9", *["def main\n  back x"] * 7)), (None, None)),
        ):
            with self.assertRaises(NoProgram) as caught:
                led(text)
            self.assertEqual(caught.exception.spot, spot, text)
            self.check(text)

    def test_words_first(self):
        """A line that isn't so by its words goes ahead of what is no program."""
        self.refused(one_def("  x = 99", "  x == 3", "  back x"), 3)
        self.refused("width 99\ndef f\n  tell x", 3)

    def test_labels_beyond(self):
        """A label beyond 9999 stands in no def that is let by otherwise: there are too many steps ahead."""
        for many in (498, 499, 500, 600):
            with self.assertRaises(NoProgram) as caught:
                led(one_def(*["  tell x"] * many, "  back x"))
            self.assertEqual(caught.exception.spot, (0, None))
        defs = ["def main\n  back x"] + [f"def f\n  back x"] * 250
        with self.assertRaises(NoProgram) as caught:
            led("\n".join(("width 9", *defs)))
        self.assertEqual(caught.exception.spot, (None, None))

    def test_left_out_told_twice_cut_off(self):
        for text in (NESTED, *map(drawn_text, range(25))):
            lines = text.split("\n")
            for at, line in enumerate(lines):
                self.check("\n".join(lines[:at] + lines[at + 1:]))
                self.check("\n".join(lines[:at + 1] + lines[at:]))
                self.check("\n".join(lines[:at]))
                self.check("\n".join([*lines[:at], " " + line, *lines[at + 1:]]))
                self.check("\n".join([*lines[:at], "  " + line, *lines[at + 1:]]))
                self.check("\n".join([*lines[:at], line[2:], *lines[at + 1:]]))
                self.check("\n".join([*lines[:at], "", *lines[at:]]))

    def test_words_otherwise(self):
        """Words left out, told twice, exchanged and others, in texts that are drawn."""
        words = ("x", "p", "=", "+", "-", "*", "//", "rest", "mid", "(", ")", "[", "]", "if", "else", "while", "0", "-1", "12",
                 "<", "<=", ">", "row", "rows", "length", "ask", "tell", "check", "back", "def", "", "zzzzz", "X", "007")
        kinds = set()
        for seed in range(150):
            chance = random.Random(seed)
            lines = drawn_text(seed).split("\n")
            for _ in range(25):
                at = chance.randrange(len(lines))
                parts = lines[at].split(" ")
                where = chance.randrange(len(parts))
                parts[where:where + chance.choice((0, 1, 1))] = chance.choice(([], [chance.choice(words)], parts[where:where + 1] * 2))
                text = "\n".join([*lines[:at], " ".join(parts), *lines[at + 1:]])
                kinds.add((looping.wrong_line(text) is None, self.check(text) is None))
        self.assertEqual(kinds, {(True, True), (True, False), (False, True)})


class TestDrawn(LoopsCase):
    def test_drawn_texts(self):
        goes, elses = 0, 0
        for seed in range(300):
            text = drawn_text(seed)
            told = self.check(text)
            self.assertIsNotNone(told)
            goes += sum(act[0] == "go" for one in told[1] for _, act in one[4])
            elses += text.count("else")
        self.assertGreater(elses, 60)
        self.assertGreater(goes, elses + 300)


if __name__ == "__main__":
    unittest.main()
