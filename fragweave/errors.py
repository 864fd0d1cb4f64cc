"""The errors of the package.

No class hands its fields on to its base: Python keeps the arguments of a new error by itself, and so shows an
error just as it was built, like BadText(3).
"""


class WeaveError(ValueError):
    """The base of all errors that are no failed look-ups."""


class BadText(WeaveError):
    """A text that is none of what it should be."""

    def __init__(self, number):
        self.number = number


class BadTable(WeaveError):
    """A value that is not a table, with what table_error says of it."""

    def __init__(self, error):
        self.error = error


class BadMark(WeaveError):
    """A value that is not a mark."""

    def __init__(self, value):
        self.value = value


class BadWhen(WeaveError):
    """A value that is not a when."""

    def __init__(self, value):
        self.value = value


class BadPiece(WeaveError):
    """A value that is not a piece."""

    def __init__(self, piece):
        self.piece = piece


class BadRows(WeaveError):
    """A value that is not the word for a class of rows."""

    def __init__(self, rows):
        self.rows = rows


class BadCount(WeaveError):
    """A value that is not a number of pieces."""

    def __init__(self, value):
        self.value = value


class BadWord(WeaveError):
    """A value that is not one of the words that are known."""

    def __init__(self, value):
        self.value = value


class BadReader(WeaveError):
    """A value that is not a reader."""

    def __init__(self, value):
        self.value = value


class BadRoom(WeaveError):
    """A value that is not a room."""

    def __init__(self, value):
        self.value = value


class BadPatience(WeaveError):
    """A value that is not a patience."""

    def __init__(self, value):
        self.value = value


class BadName(WeaveError):
    """A value that is not the name of a packet."""

    def __init__(self, value):
        self.value = value


class BadTicks(WeaveError):
    """A value that is not a number of ticks."""

    def __init__(self, value):
        self.value = value


class BadBatch(WeaveError):
    """A value that is not a batch of edits."""


class TooLong(WeaveError):
    """A row that would end behind the limit."""

    def __init__(self, end):
        self.end = end


class TooMany(WeaveError):
    """More than the limit."""

    def __init__(self, limit):
        self.limit = limit


class TooManyEdits(WeaveError):
    """As many edits stand as can stand."""


class NothingToUndo(WeaveError):
    """No edit stands."""


class Nothing(WeaveError):
    """There is no piece to take away."""


class Fails(WeaveError):
    """No tidier serves these tables."""


class Over(WeaveError):
    """A packet that takes no more pieces."""

    def __init__(self, value):
        self.value = value


class NoRoom(WeaveError):
    """The room is full of pieces."""

    def __init__(self, value):
        self.value = value


class Busy(WeaveError):
    """An attempt is under way."""


class Rejected(WeaveError):
    """An edit of a batch that raised an error, by its index."""

    def __init__(self, index):
        self.index = index


class Stranger(WeaveError):
    """A piece that brings another value than the one that is read at this place."""

    def __init__(self, place):
        self.place = place


class NoTable(LookupError):
    """A value that is not the name of a told table."""

    def __init__(self, value):
        self.value = value


class NoEntry(LookupError):
    """A value that is not the key of an entry."""

    def __init__(self, key):
        self.key = key


class NoPacket(LookupError):
    """A value that is not the name of a packet that still takes pieces."""

    def __init__(self, value):
        self.value = value
