"""The refusals of the program."""


class GateError(ValueError):
    """Any refusal."""


class BadThing(GateError):
    """A text that is not that of a thing within the bounds."""


class BadRow(GateError):
    """A row of a text of forms that is not written as a form."""

    def __init__(self, row):
        self.row = row


class NoForm(GateError):
    """A name that is asked for in a row, and that no form has."""

    def __init__(self, row, name):
        self.row = row
        self.name = name


class Loop(GateError):
    """A row whose form leans on itself."""

    def __init__(self, row):
        self.row = row
