"""The errors of the package."""


class PassError(ValueError):
    """A call that is refused; value is what it is refused for."""

    def __init__(self, value):
        self.value = value


class BadProgram(PassError):
    """A text that is no program; value is the number of the line at fault."""


class BadText(PassError):
    """A value that is no text of the symbols of the program."""


class TooMany(PassError):
    """More classes, states, puts or slices than there may be; value is how many there may be."""


class OtherSymbols(PassError):
    """A program or machine whose symbols do not fit."""


class BadPass(PassError):
    """A value that is no number of a pass."""


class BadWriter(PassError):
    """A value that is no writer."""


class BadSymbol(PassError):
    """A value that is no symbol of the program."""


class Closed(PassError):
    """A reader that was closed is asked to go on."""


class Barred(PassError):
    """A reader cannot move; value is the least position that bars it."""


class BadOutcome(PassError):
    """A value that is no outcome of a run."""


class BadLength(PassError):
    """A length that is out of range."""


class BadWord(PassError):
    """A value that is no word, or too long a word."""


class BadNumber(PassError):
    """A value that is no number in range."""


class BadFar(PassError):
    """A value that is no far text."""


class NoLetter(PassError):
    """An index at which nothing is written."""


class BadPosition(PassError):
    """A value that is no position that may be named here."""


class NoIdentity(PassError):
    """A value that is no identity of a symbol on the page."""


class NothingToUndo(PassError):
    """There is no edit to take back."""


class NothingToRedo(PassError):
    """There is no edit to do again."""


class NoTrial(PassError):
    """There is no trial to keep."""


class BadJournal(PassError):
    """Lines that are no journal; value is the number of the line at fault."""


class BadLine(PassError):
    """A value that is no line that a desk knows."""
