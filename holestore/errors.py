"""The errors of the package: each stands under StoreError."""


class StoreError(ValueError):
    """Stands above all errors of the package."""


class BadYard(StoreError):
    """A value is no yard; part is the word for what is wrong."""

    def __init__(self, part):
        self.part = part


class BadProgram(StoreError):
    """A value is no program; index is its first wrong instruction, or None."""

    def __init__(self, index):
        self.index = index


class BadLine(StoreError):
    """A text has a word that cannot stand; line and place are counted from 1."""

    def __init__(self, line, place):
        self.line = line
        self.place = place


class TooMany(StoreError):
    """There are more than can be handled; most is how many there may be."""

    def __init__(self, most):
        self.most = most


class BadStanding(StoreError):
    """A value is no standing of the yard."""


class BadInputs(StoreError):
    """A value is no inputs."""


class BadNumber(StoreError):
    """A value is no number from those that may be passed."""


class BadPlace(StoreError):
    """A value is no place of the yard, or the places are not tied."""


class BadBook(StoreError):
    """A value is no book of the standing."""


class BadSlide(StoreError):
    """A value is no slide that can be done."""


class NoWay(StoreError):
    """What is asked for cannot be reached."""


class BadString(StoreError):
    """A value is no string that may be passed."""
