"""The errors of the package: three bases, and under each one the classes that the document lists there.

Each class with an attribute has its own `__init__`, because it stands under its base and under no other class of the
package. The bases take nothing, so that the classes without attributes take none.
"""


class WrongValue(ValueError):
    """The base of the errors about values that are not valid."""

    def __init__(self):
        pass


class InvalidText(WrongValue):
    """A value that is the text of no table."""

    def __init__(self, given):
        self.given = given


class InvalidName(WrongValue):
    """A value that is no name."""

    def __init__(self, given):
        self.given = given


class InvalidKind(WrongValue):
    """A value that is no kind of a table."""

    def __init__(self, given):
        self.given = given


class InvalidWish(WrongValue):
    """A value that has none of the forms of a wish."""

    def __init__(self, given):
        self.given = given


class InvalidIndex(WrongValue):
    """A value that is the index of no wish."""

    def __init__(self, given):
        self.given = given


class InvalidNumber(WrongValue):
    """A value that is none of the numbers that can stand there."""

    def __init__(self, given):
        self.given = given


class InvalidLine(WrongValue):
    """A value that is no line of a console."""

    def __init__(self, given):
        self.given = given


class NotATable(WrongValue):
    """A value that is no table."""

    def __init__(self, given):
        self.given = given


class InvalidColumns(WrongValue):
    """Columns that make no table."""

    def __init__(self, index):
        self.index = index


class InvalidValues(WrongValue):
    """Values that are no data values."""

    def __init__(self, index):
        self.index = index


class InvalidCells(WrongValue):
    """Values that are no cell values."""

    def __init__(self, index):
        self.index = index


class InvalidLost(WrongValue):
    """Lost cells that are no cells, or told twice."""

    def __init__(self, index):
        self.index = index


class InvalidNames(WrongValue):
    """Names that are no columns, or told twice."""

    def __init__(self, index):
        self.index = index


class InvalidRounds(WrongValue):
    """Rounds that have not the form of rounds."""

    def __init__(self, index):
        self.index = index


class InvalidDeeds(WrongValue):
    """Deeds that have not the form of deeds."""

    def __init__(self, index):
        self.index = index


class WrongName(LookupError):
    """The base of the errors about what is not there."""

    def __init__(self):
        pass


class UnknownName(WrongName):
    """A name or a cell that is not there."""

    def __init__(self, given):
        self.given = given


class NotLost(WrongName):
    """A cell that is not among the lost ones."""

    def __init__(self, given):
        self.given = given


class NoAnswer(ArithmeticError):
    """The base of the errors about what cannot be done now."""

    def __init__(self):
        pass


class NotRight(NoAnswer):
    """No right cell values are like these."""


class NotBack(NoAnswer):
    """A value other than the one that the lost cell had."""

    def __init__(self, given):
        self.given = given


class NotReady(NoAnswer):
    """A cell is lost, so that no datum can change."""

    def __init__(self, given):
        self.given = given


class Broken(NoAnswer):
    """A wish would not hold."""

    def __init__(self, index):
        self.index = index


class InUse(NoAnswer):
    """A wish names the table."""

    def __init__(self, index):
        self.index = index


class NothingToUndo(NoAnswer):
    """There is no change that could be taken back."""
