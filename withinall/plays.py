"""Plays: texts of loops, run by themselves, line by line."""

from withinall.lines import lines_of
from withinall.loops import LABELS_A_LINE, led
from withinall.runs import Walk


def play(text, words=(), *, steps=200):
    """What playing the text with these words tells, how it ends, and how many steps were begun."""
    player = Player(text, words, steps)
    while player.goes_on():
        player.forward()
    end = player.end
    if end[0] == "fault":
        end = (*end[:2], (end[2][0], end[2][1] // LABELS_A_LINE))
    return (tuple(player.told), end, player.many)


class Player(Walk):
    """A walk by the lines of a text: it knows what acts make of states, and by its lines where to go on."""

    def __init__(self, text, words, steps):
        super().__init__(led(text), words, steps)
        self.lines = {line.number: line for definition in lines_of(text)[1] for line in definition[4]}
        # The while that is gone back to from the line that stands here.
        self.back_to = None

    def forward(self):
        """Begin the step that stands here: a going back, a head, or an act."""
        line = self._line()
        if self.back_to is not None:
            self.many += 1
            self._stand_at(self.back_to.number)
        elif line.act[0] in ("if", "while"):
            self.many += 1
            self._part(line)
        elif line.act[0] == "else":
            self.many += 1
            self._leave(line)
        else:
            super().forward()

    def _line(self):
        """The line that stands here."""
        return self.lines[self.place[1] // LABELS_A_LINE]

    def _stand_at(self, number):
        """Stand at the line of this def that has the number."""
        self.place = (self.place[0], LABELS_A_LINE * number)
        self.back_to = None

    def _part(self, line):
        """Go on within the head where its test is so, else within the else or behind all."""
        left, right = [self.state[side] if isinstance(side, str) else side for side in (line.act[1], line.act[3])]
        if left < right or (left == right and line.act[2] == "<="):
            self._stand_at(line.number + 1)
        elif line.other is not None:
            self._stand_at(line.other.number + 1)
        else:
            self._leave(line)

    def _go_on(self, made):
        """Go on behind the line that stands here, with the state that was made."""
        self.state = made[2]
        self._leave(self._line())

    def _leave(self, line):
        """Go on behind the line and all that stands in it."""
        last = line.last
        head = line.within
        while head is not None and head.last == last:
            if head.act[0] == "while":
                self._stand_at(last)
                self.back_to = head
                return
            head = head.within
        self._stand_at(last + 1)
