"""Readers of whole packets."""

from fragweave.errors import BadMark, BadTable, BadWhen
from fragweave.reading import packet_read
from fragweave.readertexts import table_text
from fragweave.tables import table_error

MARKS = ("first", "last", "least", "greatest")
WHENS = ("late", "early")


class Reader:
    """A table, a mark and a when. It never changes."""

    def __init__(self, table, *, mark="first", when="late"):
        error = table_error(table)
        if error is not None:
            raise BadTable(error)
        if mark not in MARKS:
            raise BadMark(mark)
        if when not in WHENS:
            raise BadWhen(when)
        self._table = table
        self._mark = mark
        self._when = when

    @property
    def table(self):
        """The table that is asked."""
        return self._table

    @property
    def mark(self):
        """The word for the end that counts."""
        return self._mark

    @property
    def when(self):
        """The word for the moment at which a packet is read."""
        return self._when

    def __call__(self, row):
        return packet_read(self, row)

    def __str__(self):
        return f"{self._mark} {self._when} {table_text(self._table)}"
