"""The desk: rows are said to it, and it answers by texts."""

from withinall.acts import is_label, is_name, is_word
from withinall.books import Book
from withinall.errors import NoPlace, NoRow
from withinall.looks import failing, looks, safe
from withinall.loops import led
from withinall.machines import compiled, run_rows
from withinall.runs import run
from withinall.texts import is_number, read
from withinall.written import box_written, place_written, state_written

# What is asked by one word, by a word and a place, and by a word, steps and words.
PLAIN = ("table", "looks", "safe", "groups")
PLACED = ("at", "fails")
RUNNING = ("run", "lean")


class Desk:
    """One book, the program that was told last, and its least table."""

    def __init__(self):
        self.book = Book()
        self.program = None
        self.table = {}

    def say(self, row):
        """What the desk answers to the row."""
        if not isinstance(row, str):
            raise NoRow(row)
        head, feed, text = row.partition("\n")
        if feed == "\n" and head in ("program", "loops"):
            return self._take(read(text) if head == "program" else led(text))
        words = row.split(" ")
        if self.program is None:
            raise NoRow(row)
        if words[0] in PLAIN and len(words) == 1:
            return "\n".join(self._answer(words[0]))
        if words[0] in PLACED and len(words) == 2 and _is_place(words[1]):
            return self._told_of(words[0], _place_read(words[1]))
        if words[0] in RUNNING and len(words) > 1 and self._are_numbers(words[1:]):
            numbers = [int(word) for word in words[1:]]
            return "\n".join(self._ran(words[0], numbers[0], numbers[1:]))
        raise NoRow(row)

    def _take(self, program):
        """Let the program stand from now on."""
        self.table = self.book.tell(program)
        self.program = program
        return "ok"

    def _are_numbers(self, words):
        """Whether the words are how many steps, from 0 on, and words of the width."""
        if not all([is_number(word) for word in words]) or words[0].startswith("-"):
            return False
        return all([is_word(int(word), self.program[0]) for word in words[1:]])

    def _answer(self, word):
        """The lines that answer what is asked by this word alone."""
        if word == "table":
            return [f"{place_written(place)} {box_written(self.table[place])}" for place in self.table]
        if word == "groups":
            return [_group_written(row) for row in self.book.rows()]
        found = looks(self.program)
        if word == "safe":
            places = safe(self.program, self.table)
            found = [look for look in found if look[0] in places]
        return [f"{place_written(place)} {why}" for place, why in found] if len(found) > 0 else ["none"]

    def _told_of(self, word, place):
        """The box at the place, or a state that fails its look."""
        if word == "fails":
            state = failing(self.program, self.table, place)
            return "none" if state is None else state_written(state)
        if place not in self.table:
            raise NoPlace(place)
        return box_written(self.table[place])

    def _ran(self, word, steps, words):
        """The lines that a run, or one of the machine without all safe looks, answers."""
        if word == "run":
            told, end, many = run(self.program, words, steps=steps)
            counts = [many]
        else:
            rows = compiled(self.program, left_out=safe(self.program, self.table))
            told, end, *counts = run_rows(rows, words, steps=steps)
        said = " ".join([str(one) for one in told]) if len(told) > 0 else "none"
        ended = f"back {end[1]}" if end[0] == "back" else f"fault {end[1]} {place_written(end[2])}"
        return [said, ended] + [str(count) for count in counts]


def _is_place(word):
    """Whether the word writes a name and a label."""
    name, _, label = word.partition(":")
    return is_name(name) and is_number(label) and is_label(int(label))


def _place_read(word):
    """The place that the word writes."""
    name, _, label = word.partition(":")
    return (name, int(label))


def _group_written(row):
    """The line of a row of the book."""
    words = [place_written(place) for place in row[0]] + [row[1]]
    for part in row[2] if len(row) > 2 else ():
        words.append(part if isinstance(part, str) else place_written(part))
    return " ".join(words)
