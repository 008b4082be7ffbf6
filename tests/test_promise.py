"""The promise over the whole program, sentence by sentence (point 3)."""

import random
import unittest

import judging
import looping
import states
from drawn import drawn_text
from samples import great_program, made_program, small_program
from test_books import with_step
from test_papers import other_bounds, table_that_holds
from test_plays import by_lines
from withinall.books import Book
from withinall.boxes import lies, met, tight
from withinall.groups import groups
from withinall.least import least
from withinall.looks import failing, first_trial, looks, safe
from withinall.loops import led
from withinall.machines import compiled, run_rows
from withinall.papers import is_paper, led_out, steps_of, wrong_step
from withinall.plays import play
from withinall.programs import act_at, is_program, places_of
from withinall.runs import run, trace


def drawn_words(chance, width, most=25):
    return [chance.randint(-width, width) for _ in range(chance.randint(0, most))]


class TestPromise(unittest.TestCase):
    def programs(self, many):
        """Drawn programs: small ones, others, those that texts of loops write, great ones."""
        for seed in range(many):
            chance = random.Random(seed)
            if seed % 4 == 3:
                yield chance, led(drawn_text(seed))
            else:
                yield chance, (small_program, made_program, great_program)[seed % 4 if seed % 12 == 2 else seed % 2](seed)

    def test_told_is_a_table_that_holds(self):
        """The beginning lies in it, and no step leads out of it."""
        for _, program in self.programs(200):
            table = least(program)
            self.assertEqual(list(table), places_of(program))
            self.assertIsNone(led_out(program, table))
            self.assertFalse(is_paper(program, table, ("begins",)))
        for seed in range(60):
            program = small_program(seed)
            self.assertTrue(judging.holds(program, least(program)))

    def test_it_is_the_least_and_there_is_just_one(self):
        """It is within each table that holds, and what is less doesn't hold."""
        for chance, program in self.programs(80):
            table = least(program)
            holding = table_that_holds(program, chance)
            self.assertIsNone(led_out(program, holding))
            for place, box in table.items():
                self.assertTrue(box is None or judging.inside(box, holding[place]))
            come_to = [place for place in table if table[place] is not None]
            place = chance.choice(come_to)
            for other in (None, *[each[place] for each in other_bounds(table, place)][:6]):
                less = {**table, place: tight(met(table[place], other), width=program[0]) if other else None}
                if less != table:
                    self.assertIsNotNone(led_out(program, less))
        for seed in range(60):
            self.assertEqual(least(small_program(seed)), states.least_table(small_program(seed)))

    def test_each_state_of_each_run_lies_in_it(self):
        steps = 0
        for chance, program in self.programs(200):
            table = least(program)
            for _ in range(4):
                for place, state in trace(program, drawn_words(chance, program[0]), steps=400):
                    self.assertTrue(lies(table[place], state))
                    steps += 1
        self.assertGreater(steps, 20000)

    def test_papers_of_tables_of_anybody(self):
        """Of a table of anybody it is told that it holds, or what is led out of it, which any judge may look at."""
        papers = 0
        for chance, program in self.programs(120):
            table = table_that_holds(program, chance)
            for place in chance.sample(sorted(table), min(4, len(table))):
                if table[place] is not None:
                    other = {**table, place: chance.choice([each[place] for each in other_bounds(table, place)] or [None])}
                    paper = led_out(program, other)
                    if paper is not None:
                        papers += 1
                        self.assertTrue(is_paper(program, other, paper))
                        self.assertTrue(judging.is_paper(program, other, paper))
                        self.assertFalse(is_paper(program, table, paper))
        self.assertGreater(papers, 100)

    def test_steps_that_show_that_none_less_holds(self):
        for chance, program in self.programs(100):
            table = least(program)
            steps = steps_of(program)
            self.assertIsNone(wrong_step(program, table, steps))
            if len(steps) < 400:
                self.assertEqual(judging.followed(program, steps), table)
            holding = table_that_holds(program, chance)
            # All that is made by these steps lies in each table that holds.
            for step in steps[::max(1, len(steps) // 50)]:
                place, state = judging.made_by(program, step)
                self.assertTrue(lies(holding[place], state))

    def test_a_look_is_safe_just_where_no_state_fails_it(self):
        for seed in range(120):
            program = small_program(seed)
            for table in (least(program), table_that_holds(program, random.Random(seed))):
                safe_ones = safe(program, table)
                for place, _ in looks(program):
                    found = states.states_in(table[place], program[0]) if table[place] else []
                    so = any(judging.made_by(program, ("out", place, state, 0)) is None for state in found)
                    self.assertEqual(place in safe_ones, not so)
                    self.assertEqual(failing(program, table, place) is None, not so)

    def test_machines_without_any_set_of_safe_looks(self):
        fewer = 0
        for chance, program in self.programs(160):
            safe_ones = safe(program, least(program))
            for left_out in (safe_ones, chance.sample(safe_ones, len(safe_ones) // 2), []):
                words = drawn_words(chance, program[0])
                told = run_rows(compiled(program, left_out=left_out), words, steps=500)
                self.assertEqual(told[:3], run(program, words, steps=500))
                every = dict(looks(program))
                met_places = [place for place, _ in trace(program, words, steps=500)]
                self.assertEqual(told[3], sum(place in every and place not in left_out for place in met_places))
                fewer += sum(place in left_out for place in met_places)
        self.assertGreater(fewer, 1000)

    def test_behind_edits_the_table_is_the_fresh_one(self):
        """And just those groups were reckoned anew that point 17 names; the others have the boxes that they had."""
        kept = 0
        for chance, program in self.programs(60):
            book = Book()
            table = book.tell(program)
            for _ in range(4):
                place = chance.choice(places_of(program))
                acts = [act for one in program[1] if one[0] == place[0] for _, act in one[4]]
                other = with_step(program, *place, chance.choice(acts))
                if not is_program(other):
                    continue
                fresh = book.tell(other)
                self.assertEqual(fresh, least(other))
                rows = book.rows()
                self.assertEqual(rows, judging.fates(other, fresh, program, table))
                self.assertEqual([list(row[0]) for row in rows], groups(other))
                for row in rows:
                    if row[1] == "kept":
                        kept += 1
                        self.assertTrue(all(fresh[each] == table[each] for each in row[0]))
                program, table = other, fresh
        self.assertGreater(kept, 500)

    def test_loops_and_their_steps_run_alike(self):
        for seed in range(150):
            chance = random.Random(seed)
            text = drawn_text(seed)
            program = led(text)
            for steps in (3, 40, 400):
                words = drawn_words(chance, program[0])
                self.assertEqual(play(text, words, steps=steps), by_lines(run(program, words, steps=steps)))
                self.assertEqual(play(text, words, steps=steps), looping.played(text, words, steps))

    def test_trials_show_looks_that_are_not_safe(self):
        shown = 0
        for chance, program in self.programs(100):
            trials = [tuple(drawn_words(chance, program[0])) for _ in range(8)]
            safe_ones = safe(program, least(program))
            for place, why in looks(program):
                number = first_trial(program, place, trials)
                if number is not None:
                    shown += 1
                    self.assertNotIn(place, safe_ones)
                    self.assertEqual(run(program, trials[number])[1], ("fault", why, place))
                    self.assertNotEqual(act_at(program, place)[0], "tell")
        self.assertGreater(shown, 40)


if __name__ == "__main__":
    unittest.main()
