"""The least table: what may stand at each place, whatever words are handed in."""

from withinall.boxes import box_of, hull, within
from withinall.leads import Spot, led, led_behind
from withinall.programs import first_place, places_of
from withinall.runs import beginning


def least(program):
    """The least table in which the beginning lies and that no step leads out of."""
    search = Search(program)
    search.finish()
    return search.table


class Search:
    """A table on its way: it begins with main's beginning alone, and each step puts in what is led out of it."""

    def __init__(self, program):
        self.places = places_of(program)
        self.spots = {place: Spot(program, place) for place in self.places}
        self.table = {place: None for place in self.places}
        self.returned = {definition[0]: None for definition in program[1]}
        self.calls = {name: [] for name in self.returned}
        for place in self.places:
            act = self.spots[place].act
            if act[0] == "call":
                self.calls[act[2]].append(place)
        self.waiting = {}
        self._put(first_place(program, "main"), box_of(program, "main", beginning(program, "main")))

    def finish(self):
        """Put in what is led out until nothing is."""
        while len(self.waiting) > 0:
            for place in self.places:
                if place in self.waiting:
                    del self.waiting[place]
                    self._step(place)

    def _put(self, place, box):
        """Widen the box at the place by this one, and look at the place again where that changes it."""
        if not within(box, self.table[place]):
            self.table[place] = hull(self.table[place], box)
            self.waiting[place] = True

    def _step(self, place):
        """Put in all that is led to from the place."""
        spot, box = self.spots[place], self.table[place]
        for other, found in led(spot, box):
            self._put(other, found)
        if spot.act[0] == "call":
            self._go_behind(place)
        elif spot.act[0] == "back":
            self._go_back(place[0], box[0][spot.act[1]])

    def _go_back(self, name, stretch):
        """Go on behind the calls of the def that has the name, where words go back that never did."""
        known = self.returned[name]
        widened = stretch if known is None else (min(known[0], stretch[0]), max(known[1], stretch[1]))
        if widened != known:
            self.returned[name] = widened
            for place in self.calls[name]:
                self._go_behind(place)

    def _go_behind(self, place):
        """Put in what goes on behind the call at the place, where it is come to and its callee goes back."""
        spot, box = self.spots[place], self.table[place]
        back = self.returned[spot.act[2]]
        if box is not None and back is not None:
            for other, found in led_behind(spot, box, back):
                self._put(other, found)
