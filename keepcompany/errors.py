"""The errors that the functions of the package raise."""


class Unfit(ValueError):
    """An argument is not what it is told to be."""


class Stuck(ValueError):
    """Two boxes cannot be joined: no answer, or many, would do."""


class CanNot(ValueError):
    """What is asked has no meaning for these arguments."""


class NoPaper(ValueError):
    """There is no paper of the kind that is asked."""


class TooMany(ValueError):
    """There are more cells, or more of something else, than are told."""


class BadText(ValueError):
    """A line of a text cannot stand there."""

    def __init__(self, line):
        ValueError.__init__(self, line)
        self.line = line
