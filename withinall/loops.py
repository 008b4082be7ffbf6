"""Loops: the programs that texts of loops write."""

from withinall.leads import CONTRARY
from withinall.lines import lines_of
from withinall.programs import need_program

# Between the labels of two lines stand those that go back behind the first of them.
LABELS_A_LINE = 20


def led(text):
    """The program that the text writes; refused by its first line that isn't so, then as a program is."""
    width, defs = lines_of(text)
    program = (width, tuple([(*definition[:4], _steps_of(definition[4])) for definition in defs]))
    need_program(program)
    return program


def label_of(line):
    """The label of the line's step."""
    return LABELS_A_LINE * line.number


def _steps_of(lines):
    """The steps that the lines of a def write."""
    steps = []
    # How many steps are ahead of what is behind each head and all that stands in it.
    ahead = {}
    for line in lines:
        steps.append((label_of(line), line))
        head = line.within
        while head is not None and head.last == line.number:
            if head.act[0] == "while":
                steps.append((steps[-1][0] + 1, ("go", label_of(head))))
            ahead[head.number] = len(steps)
            head = head.within
    return tuple([(label, _act_of(part, steps, ahead)) for label, part in steps])


def _act_of(part, steps, ahead):
    """The act of a line, or of a going back, which is told as it is."""
    if isinstance(part, tuple):
        return part
    act = part.act
    if act[0] == "else":
        return ("go", steps[ahead[part.number]][0])
    if act[0] not in ("if", "while"):
        return act
    label = steps[ahead[part.number]][0] if part.other is None else label_of(part.other) + LABELS_A_LINE
    return ("if", act[3], CONTRARY[act[2]], act[1], label)
