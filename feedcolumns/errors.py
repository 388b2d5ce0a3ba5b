"""The errors that the package raises; each keeps what was wrong in the attribute value."""


class FeedError(ValueError):
    """What all errors of the package have in common."""

    def __init__(self, value):
        self.value = value


class InvalidName(FeedError):
    """A name is not one letter from a to z, stands twice, or is not there."""


class InvalidFormula(FeedError):
    """The formula of this column refers to what is neither an input nor a column."""


class Circular(FeedError):
    """These columns refer to one another in a ring within one row."""


class InvalidForm(FeedError):
    """There is no form with these powers, or a form is of no use here."""


class InvalidNumber(FeedError):
    """A number is out of its limits."""


class UnlikeInputs(FeedError):
    """Two sheets do not have the same inputs."""


class TooDeep(FeedError):
    """The common bottom of a column has too great a degree."""


class NothingToUndo(FeedError):
    """There is no call that could be taken back."""


class Unreadable(FeedError):
    """Nothing has this text."""
