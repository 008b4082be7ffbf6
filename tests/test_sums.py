"""The stretches of words that plus, minus, times, over and rest lead to and let through (points 8 and 13)."""

import itertools
import operator
import random
import unittest

from states import stretch, words
from withinall.runs import one_step
from withinall.sums import pairs, twice

RESULTS = {"plus": operator.add, "minus": operator.sub, "times": operator.mul, "over": operator.floordiv,
           "rest": operator.mod}


def made(word, width):
    """The result of each pair of words of which the act doesn't fault."""
    found = {}
    for y, z in itertools.product(words(width), repeat=2):
        if (z != 0 or word not in ("over", "rest")) and abs(RESULTS[word](y, z)) <= width:
            found[y, z] = RESULTS[word](y, z)
    return found


MADE = {(word, width): made(word, width) for word in RESULTS for width in (*range(1, 9), 31)}


def pairs_by_all(word, one, other, width):
    """What pairs has to tell, by all pairs gone through."""
    found = MADE[word, width]
    let = [(y, z) for y in range(one[0], one[1] + 1) for z in range(other[0], other[1] + 1) if (y, z) in found]
    return (stretch(found[pair] for pair in let), stretch(y for y, _ in let), stretch(z for _, z in let))


def twice_by_all(word, one, width):
    """What twice has to tell, by all words gone through."""
    found = MADE[word, width]
    let = [y for y in range(one[0], one[1] + 1) if (y, y) in found]
    return (stretch(found[y, y] for y in let), stretch(let))


def stretches(width):
    return [(least, greatest) for least in words(width) for greatest in range(least, width + 1)]


class SumCase(unittest.TestCase):
    def compare(self, word, one, other, width):
        self.assertEqual(pairs(word, one, other, width=width), pairs_by_all(word, one, other, width),
                         (word, one, other, width))


class TestPairs(SumCase):
    def test_by_hand(self):
        self.assertEqual(pairs("plus", (0, 5), (3, 9), width=9), ((3, 9), (0, 5), (3, 9)))
        self.assertEqual(pairs("plus", (4, 9), (3, 9), width=9), ((7, 9), (4, 6), (3, 5)))
        self.assertEqual(pairs("minus", (-9, 0), (3, 8), width=9), ((-9, -3), (-6, 0), (3, 8)))
        self.assertEqual(pairs("times", (2, 9), (-9, 9), width=9), ((-9, 9), (2, 9), (-4, 4)))
        self.assertEqual(pairs("times", (2, 9), (2, 9), width=9), ((4, 9), (2, 4), (2, 4)))
        self.assertEqual(pairs("over", (-7, 7), (0, 3), width=9), ((-7, 7), (-7, 7), (1, 3)))
        self.assertEqual(pairs("over", (5, 7), (-3, -2), width=9), ((-4, -2), (5, 7), (-3, -2)))
        self.assertEqual(pairs("rest", (5, 7), (-3, 0), width=9), ((-2, 0), (5, 7), (-3, -1)))
        self.assertEqual(pairs("rest", (6, 7), (5, 5), width=9), ((1, 2), (6, 7), (5, 5)))
        self.assertEqual(pairs("rest", (1, 1), (2, 9), width=9), ((1, 1), (1, 1), (2, 9)))

    def test_none_where_each_pair_faults(self):
        nothing = (None, None, None)
        for word, one, other in (("plus", (5, 9), (5, 9)), ("plus", (-9, -5), (-9, -5)), ("minus", (5, 9), (-9, -5)),
                                 ("times", (4, 9), (3, 9)), ("times", (-9, -4), (3, 9)), ("times", (-9, -4), (-5, -3)),
                                 ("over", (0, 9), (0, 0)), ("rest", (-9, 9), (0, 0))):
            self.assertEqual(pairs(word, one, other, width=9), nothing)
            self.assertEqual(pairs(word=word, one=one, other=other, width=9), nothing)

    def test_nothing_handed_in(self):
        for word in RESULTS:
            for one, other in ((None, None), (None, (0, 1)), ((0, 1), None), (None, (0, 0)), ((1, 0), (0, 1)),
                               ((1, 1), (3, 2))):
                self.assertEqual(pairs(word, one, other, width=5), (None, None, None))

    def test_all_stretches_of_small_widths(self):
        for width in range(1, 9):
            for word, one, other in itertools.product(RESULTS, stretches(width), stretches(width)):
                self.compare(word, one, other, width)

    def test_each_two_words_of_the_greatest_width(self):
        for word, y, z in itertools.product(RESULTS, words(31), words(31)):
            self.compare(word, (y, y), (z, z), 31)

    def test_one_word_and_whole_stretches_of_the_greatest_width(self):
        wide = [(-31, 31), (0, 31), (-31, 0), (1, 31), (-31, -1), (-5, 6), (2, 30), (0, 0), (-1, 1)]
        for word, y, other in itertools.product(RESULTS, words(31), wide):
            self.compare(word, (y, y), other, 31)
            self.compare(word, other, (y, y), 31)
        for word, one, other in itertools.product(RESULTS, wide, wide):
            self.compare(word, one, other, 31)

    def test_drawn_stretches_of_the_greatest_width(self):
        chance = random.Random(6)
        for _ in range(1500):
            one, other = (tuple(sorted(chance.choices(words(31), k=2))) for _ in range(2))
            for word in RESULTS:
                self.compare(word, one, other, 31)


class TestTwice(SumCase):
    def test_by_hand(self):
        self.assertEqual(twice("plus", (-9, 9), width=9), ((-8, 8), (-4, 4)))
        self.assertEqual(twice("plus", (2, 9), width=9), ((4, 8), (2, 4)))
        self.assertEqual(twice("minus", (-9, 7), width=9), ((0, 0), (-9, 7)))
        self.assertEqual(twice("times", (-9, 2), width=9), ((0, 9), (-3, 2)))
        self.assertEqual(twice("times", (-2, -1), width=9), ((1, 4), (-2, -1)))
        self.assertEqual(twice("times", (-9, 9), width=8), ((0, 4), (-2, 2)))
        self.assertEqual(twice("over", (0, 9), width=9), ((1, 1), (1, 9)))
        self.assertEqual(twice("rest", (-3, 0), width=9), ((0, 0), (-3, -1)))
        self.assertEqual(twice("rest", (-3, 3), width=9), ((0, 0), (-3, 3)))

    def test_none_where_each_word_faults(self):
        for word, one in (("plus", (5, 9)), ("plus", (-9, -5)), ("times", (4, 9)), ("times", (-9, -4)), ("over", (0, 0)),
                          ("rest", (0, 0))):
            self.assertEqual(twice(word, one, width=9), (None, None))
            self.assertEqual(twice(word=word, one=one, width=9), (None, None))

    def test_nothing_handed_in(self):
        for word in RESULTS:
            self.assertEqual(twice(word, None, width=5), (None, None))
            self.assertEqual(twice(word, (1, 0), width=5), (None, None))

    def test_all_stretches(self):
        for width in (*range(1, 9), 31):
            for word, one in itertools.product(RESULTS, stretches(width)):
                self.assertEqual(twice(word, one, width=width), twice_by_all(word, one, width), (word, one, width))


class TestAsTheStepsDo(unittest.TestCase):
    """What pairs and twice tell of single words is what the acts make of these."""

    def test_single_words(self):
        for width, word in itertools.product((1, 5, 31), RESULTS):
            steps = ((0, (word, "x", "y", "z")), (1, (word, "x", "y", "y")), (2, ("back", "x")))
            program = (width, (("main", (), (), (), steps),))
            for y, z in itertools.product(words(width), repeat=2):
                made = one_step(program, ("main", 0), {"x": 0, "y": y, "z": z})
                told = pairs(word, (y, y), (z, z), width=width)
                self.assertEqual(told == (None, None, None), made[0] == "fault")
                if made[0] == "on":
                    self.assertEqual(told, ((made[2]["x"],) * 2, (y, y), (z, z)))
                made = one_step(program, ("main", 1), {"x": 0, "y": y, "z": z})
                told = twice(word, (y, y), width=width)
                self.assertEqual(told == (None, None), made[0] == "fault")
                if made[0] == "on":
                    self.assertEqual(told, ((made[2]["x"],) * 2, (y, y)))


if __name__ == "__main__":
    unittest.main()
