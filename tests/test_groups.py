"""Groups of places that lead to one another both ways (point 17)."""

import unittest

import judging
from cases import OwnCase
from samples import BACKWARDS, DEEP, EVERY, FACTORIAL, SAMPLES, great_program, made_program, small_program
from test_least import COUNT, HALVES, RING, main_alone
from withinall.groups import groups
from withinall.programs import places_of


class TestGroups(OwnCase):
    def check(self, program):
        told = groups(program)
        self.assertEqual([tuple(group) for group in told], judging.groups(program))
        self.assertIsInstance(told, list)
        for group in told:
            self.assertIsInstance(group, list)
        self.assertEqual(sorted(place for group in told for place in group), places_of(program))
        self.assertOwn(told)
        return told

    def labels(self, *steps):
        """The groups of a main alone, by labels."""
        return [[label for _, label in group] for group in self.check(main_alone(*steps))]

    def test_loops(self):
        self.assertEqual(self.labels((3, ("back", "x"))), [[3]])
        self.assertEqual(self.labels((3, ("go", 3))), [[3]])
        self.assertEqual(self.labels((3, ("tell", "x")), (4, ("tell", "x")), (5, ("back", "x"))), [[3], [4], [5]])
        self.assertEqual(self.labels((3, ("tell", "x")), (4, ("if", "x", "<", 1, 3)), (5, ("back", "x"))), [[3, 4], [5]])
        self.assertEqual(self.labels((3, ("tell", "x")), (4, ("if", "x", "<", 1, 5)), (5, ("go", 3))), [[3, 4, 5]])
        self.assertEqual(self.labels((1, ("go", 5)), (3, ("tell", "x")), (5, ("go", 3))), [[1], [3, 5]])
        self.assertEqual(self.labels((1, ("go", 5)), (3, ("go", 1)), (5, ("if", "x", "<", 1, 9)), (6, ("go", 5)),
                                     (9, ("go", 3))), [[1, 3, 5, 6, 9]])
        self.assertEqual(self.check(COUNT), [[("main", 0), ("main", 1), ("main", 2)], [("main", 3)],
                                             [("main", 4), ("main", 5)]])

    def test_ways_that_are_never_gone(self):
        """Ways lead where the act may go on, whether any state does or not."""
        self.assertEqual(self.labels((0, ("if", 2, "<", 1, 0)), (1, ("check", 2, "<", 1)), (2, ("if", 1, "<", 2, 1)),
                                     (3, ("back", "x"))), [[0], [1, 2], [3]])

    def test_calls(self):
        """A call leads to its callee and to the place behind it, and each back of the callee leads there."""
        callee = ("f", (), (), (), ((0, ("if", "x", "<", 1, 2)), (1, ("back", "x")), (2, ("back", "x"))))
        main = ("main", (), (), (), ((4, ("call", "x", "f", ())), (5, ("back", "x"))))
        self.assertEqual(self.check((9, (main, callee))), [[("f", 0)], [("f", 1)], [("f", 2)], [("main", 4)], [("main", 5)]])
        twice = ("main", (), (), (), ((4, ("call", "x", "f", ())), (5, ("call", "x", "f", ())), (6, ("back", "x"))))
        # From the backs it goes on behind either call, and so back to the callee.
        self.assertEqual(self.check((9, (twice, callee))),
                         [[("f", 0), ("f", 1), ("f", 2), ("main", 5)], [("main", 4)], [("main", 6)]])
        again = ("main", (), (), (), ((4, ("call", "x", "f", ())), (5, ("go", 4))))
        self.assertEqual(self.check((9, (again, callee))), [[("f", 0), ("f", 1), ("f", 2), ("main", 4), ("main", 5)]])

    def test_defs_that_call_themselves_or_one_another(self):
        self.assertEqual(self.check(FACTORIAL), [
            [("fac", 0), ("fac", 1), ("fac", 2)], [("fac", 3), ("fac", 4)], [("fac", 10)], [("fac", 11)],
            [("main", 0)], [("main", 1)], [("main", 2)], [("main", 3)]])
        self.assertEqual(self.check(DEEP)[:2], [[("down", 0), ("down", 1), ("down", 2)], [("down", 3)]])
        main = ("main", (), (), (), ((0, ("call", "x", "main", ())), (1, ("back", "x"))))
        self.assertEqual(self.check((9, (main,))), [[("main", 0)], [("main", 1)]])
        for program in (RING, HALVES, BACKWARDS, EVERY):
            self.check(program)

    def test_a_callee_that_never_goes_back(self):
        """The call leads to the next place all the same."""
        callee = ("f", (), (), (), ((0, ("go", 0)),))
        main = ("main", (), (), (), ((0, ("call", "x", "f", ())), (1, ("go", 0))))
        self.assertEqual(self.check((9, (main, callee))), [[("f", 0)], [("main", 0), ("main", 1)]])

    def test_drawn_programs(self):
        sizes = set()
        for seed in range(250):
            sizes.update(map(len, self.check(small_program(seed))))
            sizes.update(map(len, self.check(made_program(seed))))
            if seed < 10:
                sizes.update(map(len, self.check(great_program(seed))))
        self.assertLessEqual(set(range(1, 30)), sizes)
        self.assertGreater(max(sizes), 100)

    def test_anew(self):
        for program in SAMPLES:
            one, other = groups(program=program), groups(program)
            self.assertEqual(one, other)
            self.assertOwn([one, other])
            one[0].clear()
            self.assertEqual(groups(program), other)


if __name__ == "__main__":
    unittest.main()
