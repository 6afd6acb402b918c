"""The errors that the program raises.

Their messages show no values: Python refuses to print very large integers.
"""


class Fault(ValueError):
    """The base class of all errors of the program."""


class ZeroDivisor(Fault):
    """A division by zero."""


class Malformed(Fault):
    """An argument does not have the form that is asked for."""


class Refused(Fault):
    """A request beyond the limits; the reason is a word of small letters."""

    def __init__(self, reason):
        self.reason = reason


class NoText(Fault):
    """A text that stands for nothing; `at` is the position of the fault."""

    def __init__(self, at):
        self.at = at
