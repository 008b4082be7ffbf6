"""The refusals: one base, and a class beneath it for each kind."""


class WithinError(ValueError):
    """Any refusal of this package."""


# The messages leave the fields out, for a field may be anything, and Python shows no number of endless figures.
class NoProgram(WithinError):
    """What is no program; spot tells the first part that isn't so."""

    def __init__(self, spot):
        super().__init__("this is no program")
        self.spot = spot


class NoText(WithinError):
    """What is no text of a program; row is the number of the first row that isn't so."""

    def __init__(self, row):
        super().__init__("this is no text of a program")
        self.row = row


class NoPlace(WithinError):
    """What is no such place; place is what was asked for."""

    def __init__(self, place):
        super().__init__("this is no such place")
        self.place = place


class NoRow(WithinError):
    """What is no row for the desk; row is what was said."""

    def __init__(self, row):
        super().__init__("this is no such row")
        self.row = row
