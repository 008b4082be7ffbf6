"""Books: they are told programs one behind the other, and reckon anew just what must be."""

from withinall.boxes import copied
from withinall.groups import groups, reached_from, ways_of
from withinall.least import Search
from withinall.programs import act_at, first_place, names_of, need_program, next_place, places_of


class Book:
    """The programs that were told, and of the last one its least table and what became of its groups."""

    def __init__(self):
        self.told = []
        self.last = None
        self.fates = []

    def tell(self, program):
        """The least table of the program."""
        need_program(program)
        telling = Telling(program, self.last)
        telling.finish()
        self.told.append(program)
        self.last = telling.page
        self.fates = [telling.fates[group] for group in telling.page.groups]
        return {place: copied(box) for place, box in telling.page.table.items()}

    def rows(self):
        """What became of each group at the last telling."""
        return list(self.fates)

    def __len__(self):
        """How many programs were told."""
        return len(self.told)


class Page:
    """A program that was told, and all of it that the next one is held against."""

    def __init__(self, program):
        places = places_of(program)
        ways = ways_of(program)
        self.width = program[0]
        self.heads = {definition[0]: (definition[1:4], names_of(definition)) for definition in program[1]}
        self.firsts = {definition[0]: first_place(program, definition[0]) for definition in program[1]}
        self.steps = {place: (act_at(program, place), next_place(program, place)) for place in places}
        self.reached = reached_from(ways)
        self.groups = [tuple(group) for group in groups(program)]
        self.sources = {place: [] for place in places}
        for place in places:
            for other in ways[place]:
                self.sources[other].append(place)
        self.table = {}

    def sources_of(self, group):
        """The places outside of the group, rising, from which a way leads into it."""
        return sorted(set([source for place in group for source in self.sources[place] if source not in group]))

    def in_turn(self):
        """The groups, each behind all that lead into it."""
        # From a group more places are led to than from any that it leads to: all of theirs, and its own.
        return [group for _, group in sorted([(-len(self.reached[group[0]]), group) for group in self.groups])]


class Telling:
    """A program that is being told, behind another one or as the first."""

    def __init__(self, program, last):
        self.page = Page(program)
        self.last = last
        self.search = Search(program)
        self.fates = {}

    def finish(self):
        """Keep or reckon each group, in turn."""
        for group in self.page.in_turn():
            cause = self._cause(group)
            if cause is None:
                self.fates[group] = (group, "kept")
                for place in group:
                    self.search.keep(place, self.last.table[place])
            else:
                self.fates[group] = (group, "reckoned", cause)
                self.search.reckon(group, self.page.sources_of(group))
        self.page.table = self.search.table

    def _cause(self, group):
        """Why the group has to be reckoned, None where it is kept."""
        page, last = self.page, self.last
        if last is None or group not in last.groups:
            return ("new",)
        if page.width != last.width:
            return ("width",)
        for name in sorted(set([place[0] for place in group])):
            if page.heads[name] != last.heads[name]:
                return ("def", name)
        for name in sorted(set([*page.firsts, *last.firsts])):
            if (page.firsts.get(name) in group) != (last.firsts.get(name) in group):
                return ("first", name)
        for place in group:
            if page.steps[place] != last.steps[place]:
                return ("step", place)
        return self._cause_outside(group)

    def _cause_outside(self, group):
        """Why the group has to be reckoned by what leads into it, None where nothing is another."""
        page, last = self.page, self.last
        now, then = page.sources_of(group), last.sources_of(group)
        for place in sorted(set([*now, *then])):
            if place not in now or place not in then or page.steps[place] != last.steps[place]:
                return ("from", place)
            if self.search.table[place] != last.table[place]:
                return ("from", place)
        return None
