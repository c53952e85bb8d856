"""The refusals of the program."""


class StrideError(ValueError):
    """Every refusal stands right under this one."""


class NoCase(StrideError):
    """The stands make no case, or can't be held against one another."""


class NoPlace(StrideError):
    """There is no such place."""


class NoMoment(StrideError):
    """There is no such moment."""


class NoBuild(StrideError):
    """The plans are not of one build."""


class TooMany(StrideError):
    """There is more than the limit allows."""


class TooBig(StrideError):
    """What is made goes beyond the bounds of a plan."""


class Dry(StrideError):
    """There are more steps than the most allows."""


class NoText(StrideError):
    """The text is no such text."""


class NoLine(StrideError):
    """The row told to a desk is none that it takes."""


class NoRow(StrideError):
    """A list of texts is no plan; row is the number of the first wrong one."""

    def __init__(self, row):
        StrideError.__init__(self, f"no such row: {row}")
        self.row = row
