"""The errors that the functions of the package raise."""


class Unfit(ValueError):
    """An argument is not what it is told to be."""

    def __init__(self):
        ValueError.__init__(self, "an argument is not what it is told to be")


class Stuck(ValueError):
    """Two boxes cannot be joined: no answer, or many, would do."""

    def __init__(self):
        ValueError.__init__(self, "the boxes are stuck")


class CanNot(ValueError):
    """What is asked has no meaning for these arguments."""

    def __init__(self):
        ValueError.__init__(self, "that cannot be")


class NoPaper(ValueError):
    """There is no paper of the kind that is asked."""

    def __init__(self):
        ValueError.__init__(self, "there is no such paper")


class TooMany(ValueError):
    """There are more cells, or more of something else, than are told."""

    def __init__(self):
        ValueError.__init__(self, "there are too many")


class BadText(ValueError):
    """A line of a text cannot stand there."""

    def __init__(self, line):
        ValueError.__init__(self, line)
        self.line = line
