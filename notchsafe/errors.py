"""The errors of the package; each keeps what it was made of."""


class StickError(ValueError):
    """Any error of this package."""


class InvalidStick(StickError):
    """A value is no stick."""


class InvalidWay(StickError):
    """An argument of a way is wrong; `word` is the name of its parameter."""

    def __init__(self, word):
        self.word = word


class InvalidBook(StickError):
    """An entry cannot stand in a book; `at` is its number."""

    def __init__(self, at):
        self.at = at


class InvalidText(StickError):
    """A line cannot be read; `at` is its number."""

    def __init__(self, at):
        self.at = at


class InvalidRule(StickError):
    """A check cannot stand in a rule; `at` is its number."""

    def __init__(self, at):
        self.at = at


class InvalidCommand(StickError):
    """A command has none of the forms of a desk."""


class NoSum(StickError):
    """A book has no such sum."""

    def __init__(self, value):
        self.value = value


class NoStick(StickError):
    """No stick has this number."""

    def __init__(self, at):
        self.at = at


class NoPlace(StickError):
    """There is no such place, or no notch can be added at it."""

    def __init__(self, at):
        self.at = at


class Refused(StickError):
    """A ledger has no stick with this number."""

    def __init__(self, at):
        self.at = at
