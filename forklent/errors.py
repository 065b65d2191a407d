"""The errors that the program raises.

Python keeps what an error is created with as its message, so no class words one of its own.
"""


class ForkError(ValueError):
    """The base class of all errors that the program raises."""


class KindProblem(ForkError):
    """A record or a function does not pass the check of kinds."""

    def __init__(self, where, reason):
        self.where = where
        self.reason = reason


class NoSuchFunction(ForkError):
    """The program has no function of this name."""

    def __init__(self, name):
        self.name = name


class NotAllocated(ForkError):
    """The cell belongs to no block, or no block begins at the address."""

    def __init__(self, address):
        self.address = address


class NoSuchStep(ForkError):
    """A step does not fit the kind that it is applied to."""


class NoSuchVariable(ForkError):
    """A place begins with a variable that is not known."""


class Refused(ForkError):
    """The program is not accepted."""
