"""The least table: what may stand at each place, whatever words are handed in."""

from withinall.boxes import box_of, hull, within
from withinall.leads import Spot, led, led_behind
from withinall.programs import first_place, places_of
from withinall.runs import beginning


def least(program):
    """The least table in which the beginning lies and that no step leads out of."""
    search = Search(program)
    search.reckon(search.places, [])
    return search.table


class Search:
    """A table on its way: nothing at first, until places are reckoned, or are told the boxes that they have."""

    def __init__(self, program):
        self.program = program
        self.places = places_of(program)
        self.spots = {place: Spot(program, place) for place in self.places}
        self.table = {place: None for place in self.places}
        self.returned = {definition[0]: None for definition in program[1]}
        self.calls = {name: [] for name in self.returned}
        for place in self.places:
            act = self.spots[place].act
            if act[0] == "call":
                self.calls[act[2]].append(place)
        self.among = {}
        self.waiting = {}

    def reckon(self, places, sources):
        """Put into these places what is led there: main's beginning, what is led from the sources, which are all that
        lead there from elsewhere and have their boxes, and then, until nothing is left, from these places."""
        self.among = {place: True for place in places}
        self._put(first_place(self.program, "main"), box_of(self.program, "main", beginning(self.program, "main")))
        for place in sources:
            if self.table[place] is not None:
                self._step(place)
        while len(self.waiting) > 0:
            for place in places:
                if place in self.waiting:
                    del self.waiting[place]
                    self._step(place)

    def keep(self, place, box):
        """Take the box as the one that the place has."""
        self.table[place] = box

    def _put(self, place, box):
        """Widen the box at the place, where it is being reckoned, by this one; look at it again if that changes it."""
        if place in self.among and not within(box, self.table[place]):
            self.table[place] = hull(self.table[place], box)
            self.waiting[place] = True

    def _step(self, place):
        """Put in all that is led to from the place."""
        spot, box = self.spots[place], self.table[place]
        for other, found in led(spot, box):
            self._put(other, found)
        if spot.act[0] == "call":
            self._go_behind(place)
        elif spot.act[0] == "back" and self._take_back(place[0], box[0][spot.act[1]]):
            for call in self.calls[place[0]]:
                self._go_behind(call)

    def _take_back(self, name, stretch):
        """Take it that these words go back from the def that has the name; whether some of them never did."""
        known = self.returned[name]
        widened = stretch if known is None else (min(known[0], stretch[0]), max(known[1], stretch[1]))
        self.returned[name] = widened
        return widened != known

    def _go_behind(self, place):
        """Put in what goes on behind the call at the place, where it is come to and its callee goes back."""
        spot, box = self.spots[place], self.table[place]
        back = self.returned[spot.act[2]]
        if box is not None and back is not None:
            for other, found in led_behind(spot, box, back):
                self._put(other, found)
