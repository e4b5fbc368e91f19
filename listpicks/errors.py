"""The errors of the package: all of them are PickErrors."""


class PickError(ValueError):
    """What all errors of the package are."""


class InvalidPolynomial(PickError):
    """No polynomial can be made: at tells the first term that is none."""

    def __init__(self, at):
        PickError.__init__(self, "no such polynomial")
        self.at = at


class InvalidLists(PickError):
    """No lists can be made: at tells the first row that is none."""

    def __init__(self, at):
        PickError.__init__(self, "no such lists")
        self.at = at


class InvalidText(PickError):
    """A text cannot be read: at tells how many tokens of it can be."""

    def __init__(self, at):
        PickError.__init__(self, "no such text")
        self.at = at


class InvalidPaper(PickError):
    """A paper is none: at tells where."""

    def __init__(self, at):
        PickError.__init__(self, "no such paper")
        self.at = at


class InvalidQuestion(PickError):
    """A question or a part of it is none: at tells which."""

    def __init__(self, at):
        PickError.__init__(self, "no such question")
        self.at = at


class Refused(PickError):
    """More would have to be gone through than is allowed: at tells how much."""

    def __init__(self, at):
        PickError.__init__(self, "refused")
        self.at = at


class InvalidCommand(PickError):
    """A command is none."""
