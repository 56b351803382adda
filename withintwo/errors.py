"""The errors of the package."""


class TableError(Exception):
    """The base class of all errors of the package."""


class BadTable(TableError):
    """A value that should be a table is none."""

    def __init__(self, thing):
        self.thing = thing


class BadWeb(TableError):
    """A value that should be a web, signed or looped, is none."""

    def __init__(self, thing):
        self.thing = thing


class BadPlace(TableError):
    """A value that should be a place is none."""

    def __init__(self, thing):
        self.thing = thing


class BadLot(TableError):
    """A value that should be a lot is none."""

    def __init__(self, thing):
        self.thing = thing


class BadRow(TableError):
    """A value that should be a row is none."""

    def __init__(self, thing):
        self.thing = thing


class BadTurning(TableError):
    """A value that should be a turning is none."""

    def __init__(self, thing):
        self.thing = thing


class BadFraction(TableError):
    """A value that should be a fraction is none."""

    def __init__(self, thing):
        self.thing = thing


class BadNumber(TableError):
    """A value that should be a number of some range is none."""

    def __init__(self, thing):
        self.thing = thing


class BadText(TableError):
    """A text tells nothing: at is its first wrong line, or 0."""

    def __init__(self, at):
        self.at = at


class BadRows(TableError):
    """A value that should be a tuple of rows is none."""

    def __init__(self, thing):
        self.thing = thing


class BadRoot(TableError):
    """A value that should be a root is none."""

    def __init__(self, thing):
        self.thing = thing


class BadKind(TableError):
    """A value that should be a kind or a name is none."""

    def __init__(self, thing):
        self.thing = thing


class BadTies(TableError):
    """A value that should be a drawing is none."""

    def __init__(self, thing):
        self.thing = thing


class BadTriples(TableError):
    """A value that should be a tuple of threes is none."""

    def __init__(self, thing):
        self.thing = thing


class TooLow(TableError):
    """A row is weighed too little."""

    def __init__(self, row):
        self.row = row


class TooHigh(TableError):
    """A row is weighed too much."""

    def __init__(self, row):
        self.row = row


class Beyond(TableError):
    """A row is weighed too little or too much."""

    def __init__(self, row):
        self.row = row


class NotJoined(TableError):
    """A table has more than one part."""


class NotLine(TableError):
    """A web is no line web: within the lot it is a bar."""

    def __init__(self, lot):
        self.lot = lot


class NotEven(TableError):
    """A web is not even."""

    def __init__(self, certificate):
        self.certificate = certificate


class BadChange(TableError):
    """A value is no change, or no tuple of changes that can be made."""

    def __init__(self, at):
        self.at = at


class BadPromise(TableError):
    """A value is no promise that can be made, dropped or judged."""

    def __init__(self, thing):
        self.thing = thing


class Broken(TableError):
    """A promise would not hold."""

    def __init__(self, promise, certificate):
        self.promise = promise
        self.certificate = certificate


class Full(TableError):
    """No further place can come."""


class LastPlace(TableError):
    """The only place cannot leave."""


class NothingToUndo(TableError):
    """There is no deed to take back."""


class NothingToRedo(TableError):
    """There is no deed to do again."""
