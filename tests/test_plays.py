"""Texts of loops, played line by line (point 20)."""

import random
import unittest

import looping
from drawn import drawn_text
from samples import EVERY_TEXT, THINGS
from test_loops import NESTED, one_def
from withinall.errors import NoProgram, NoText
from withinall.loops import led
from withinall.plays import play
from withinall.runs import run


def by_lines(told):
    """What a run tells, its place by lines."""
    end = told[1] if told[1][0] == "back" else (*told[1][:2], (told[1][2][0], told[1][2][1] // 20))
    return (told[0], end, told[2])


class PlaysCase(unittest.TestCase):
    def check(self, text, words=(), **steps):
        """What is told is what the promise has, and what the run of its steps tells."""
        kept = list(words)
        told = play(text, words, **steps)
        self.assertEqual(list(words), kept)
        self.assertEqual(told, looping.played(text, words, **steps), (text, words, steps))
        self.assertEqual(told, by_lines(run(led(text), words, **steps)), (text, words, steps))
        self.assertEqual([type(part) for part in told], [tuple, tuple, int])
        return told


class TestPlays(PlaysCase):
    def test_each_step(self):
        """Each head, else line that is come to and going back counts as one step; its place is told by its line."""
        lines = [2, 3, 4, 5, 6, 8, 8, 3, 4, 5, 6, 8, 8, 3, 9, ("f", 14), ("f", 15), 10]
        places = [line if isinstance(line, tuple) else ("main", line) for line in lines]
        for steps, place in enumerate(places):
            told = self.check(NESTED, (2,), steps=steps)
            self.assertEqual(told[1:], (("fault", "steps", place), steps))
        self.assertEqual(self.check(NESTED, (2,), steps=len(lines)), ((2, 1), ("back", 0), len(lines)))
        self.assertEqual(self.check(NESTED, (5,))[0], (4, 3, 2, 1))
        self.assertEqual(play(text=NESTED, words=[2], steps=18), ((2, 1), ("back", 0), 18))

    def test_elses(self):
        text = one_def("  x = ask 0 9", "  if x < 1", "    tell x", "  else", "    y = 5", "    tell y", "  back x")
        for word, lines in ((0, [2, 3, 4, 5, 8]), (1, [2, 3, 6, 7, 8])):
            for steps, line in enumerate(lines):
                self.assertEqual(self.check(text, (word,), steps=steps)[1][2], ("main", line))
            self.assertEqual(self.check(text, (word,), steps=5)[1], ("back", word))

    def test_going_back_from_within(self):
        """Of whiles that end at one line each going back is told as of that line."""
        text = one_def("  x = ask 0 9", "  while 0 < x", "    y = x", "    while 0 < y", "      if 1 < y", "        tell y",
                       "      y = y - 1", "    x = x - 1", "  back x")
        with self.assertRaises(NoText) as caught:
            play(text)
        self.assertEqual(caught.exception.row, 4)
        text = text.replace("y = x", "y = x + 0")
        for word in range(4):
            for steps in range(60):
                self.check(text, (word,), steps=steps)
        text = one_def("  x = 2", "  while 0 < x", "    x = x - 1", "    y = 2", "    while 0 < y", "      y = y - 1", "      if y < 1",
                       "        tell y", "  back x")
        seen = [self.check(text, steps=steps)[1] for steps in range(50)]
        self.assertEqual([end[2][1] for end in seen[:21]], [2, 3, 4, 5, 6, 7, 8, 9, 6, 7, 8, 9, 9, 6, 9, 3, 4, 5, 6, 7, 8])

    def test_ends(self):
        for line, words, end in (("check x < 0", (), ("fault", "check", ("main", 2))), ("x = x // y", (), ("fault", "nought", ("main", 2))),
                                 ("x = main ( )", (), ("fault", "deep", ("main", 2))), ("x = a [ x ]", (), ("fault", "place", ("main", 3))),
                                 ("x = ask 4 4", (), ("back", 4))):
            rows = ["  rows a"] if "[" in line else []
            self.assertEqual(self.check(one_def(*rows, "  " + line, "  back x"), words)[1], end)
        forever = one_def("  while 0 <= 0", "    tell x", "  back x")
        self.assertEqual(play(forever), (((0,) * 67), ("fault", "steps", ("main", 3)), 200))
        self.check(forever, steps=1000)
        self.assertEqual(play(forever, steps=0), ((), ("fault", "steps", ("main", 2)), 0))

    def test_calls(self):
        """A call may stand anywhere, last in a while too; behind it it goes on where its line does."""
        text = "\n".join(("width 9", "def main", "  n = ask 0 9", "  while 0 < n", "    n = f ( n )", "  if n < 1", "    n = f ( n )",
                          "  else", "    tell n", "  back n", "def f u", "  if u < 1", "    back u", "  u = u - 1", "  tell u", "  back u"))
        for word in range(5):
            for steps in (*range(25), 200):
                self.check(text, (word,), steps=steps)
        self.assertEqual(self.check(text, (3,))[0], (2, 1, 0))

    def test_backs_within(self):
        text = one_def("  x = ask 0 9", "  while 0 <= x", "    if x < 3", "      back x", "    x = x - 1", "  y = 9", "  back y")
        self.assertEqual(self.check(text, (5,))[1], ("back", 2))

    def test_refused(self):
        """As what it writes is."""
        for thing in THINGS:
            if not isinstance(thing, str):
                with self.assertRaises(NoText) as caught:
                    play(thing)
                self.assertEqual(caught.exception.row, 0)
        for text in (EVERY_TEXT, one_def("  tell x", "   back x"), one_def("  if x < 1", "  back x"), "width 9", ""):
            with self.assertRaises(NoText) as caught:
                play(text, steps=0)
            self.assertEqual(caught.exception.row, looping.wrong_line(text))
        for text, spot in ((one_def("  x = 10", "  back x"), (0, 0)), (one_def("  back x", head="def f"), (None, None))):
            with self.assertRaises(NoProgram) as caught:
                play(text, steps=0)
            self.assertEqual(caught.exception.spot, spot)

    def test_words(self):
        text = one_def("  x = ask -9 9", "  while x < 9", "    tell x", "    x = ask -9 9", "  back x")
        self.assertEqual(self.check(text, [3, -4, 9]), ((3, -4), ("back", 9), 11))
        self.assertEqual(self.check(text, [3], steps=9)[0], (3, 0))

    def test_drawn_texts(self):
        ends = set()
        for seed in range(400):
            text = drawn_text(seed)
            chance = random.Random(seed)
            width = int(text.split("\n")[0].split()[1])
            for _ in range(4):
                words = [chance.randint(-width, width) for _ in range(10)]
                ends.add(self.check(text, words, steps=chance.choice((0, 3, 17, 80, 400)))[1][:-1])
        whys = ("great", "nought", "size", "place", "check", "steps", "deep")
        self.assertEqual({("fault", why) for why in whys} | {("back",)}, ends)


if __name__ == "__main__":
    unittest.main()
