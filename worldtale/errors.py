"""The refusals of the program, each one straight under TaleError."""


class TaleError(ValueError):
    """Any refusal."""


class BadRow(TaleError):
    """A row of a text that can't stand: the row, and the word in it."""

    def __init__(self, row, word):
        TaleError.__init__(self, f"row {row}, word {word} can't stand")
        self.row = row
        self.word = word


class BadWorld(TaleError):
    """A world that the looker refuses: what is wrong, and the name of the row."""

    def __init__(self, what, name):
        TaleError.__init__(self, f"{what}: {name}")
        self.what = what
        self.name = name


class BadCommand(TaleError):
    """What is no line: the word that can't stand."""

    def __init__(self, word):
        TaleError.__init__(self, f"word {word} can't stand")
        self.word = word


class BadState(TaleError):
    """A deed that would leave a state that can't be."""


class OutOfPlace(TaleError):
    """A name that isn't there."""


class TooGreat(TaleError):
    """More than may be gone through."""
