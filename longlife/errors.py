"""The errors of the program."""


class LifeError(ValueError):
    """The base class of all errors of the program."""


class InvalidRule(LifeError):
    """A string is not the written form of a rule."""


class InvalidText(LifeError):
    """A string is not the run text of a home form."""


class InvalidPicture(LifeError):
    """A list of strings is not a picture; row and column tell where it stops being one."""

    def __init__(self, row, column):
        super().__init__(f"not a picture at row {row}, column {column}")
        self.row = row
        self.column = column
