"""Readers of whole packets."""

from fragweave.alike import read_alike
from fragweave.errors import BadMark, BadTable, BadText, BadWhen
from fragweave.reading import packet_read
from fragweave.readertexts import parse_table, table_text
from fragweave.tables import table_error

MARKS = ("first", "last", "least", "greatest")
WHENS = ("late", "early")


def is_table_text(word):
    """Return whether a str is the text of a table."""
    try:
        parse_table(word)
    except BadText:
        return False
    return True


def wrong_word(words):
    """Return the number of the first word that is wrong in the text of a reader, None if it is one."""
    if words[0] not in MARKS:
        return 0
    if len(words) > 1 and words[1] not in WHENS:
        return 1
    if len(words) > 2 and not is_table_text(words[2]):
        return 2
    return None if len(words) == 3 else min(len(words), 3)


class Reader:
    """A table, a mark and a when. It never changes."""

    def __init__(self, table, *, mark="first", when="late"):
        error = table_error(table)
        if error is not None:
            raise BadTable(error)
        if mark not in MARKS:
            raise BadMark(mark)
        if when not in WHENS:
            raise BadWhen(when)
        self._table = table
        self._mark = mark
        self._when = when

    @classmethod
    def parse(cls, value):
        """Return the reader with this str."""
        if not isinstance(value, str):
            raise BadText(None)
        words = value.split(" ")
        wrong = wrong_word(words)
        if wrong is not None:
            raise BadText(wrong)
        mark, when, text = words
        return cls(parse_table(text), mark=mark, when=when)

    @property
    def table(self):
        """The table that is asked."""
        return self._table

    @property
    def mark(self):
        """The word for the end that counts."""
        return self._mark

    @property
    def when(self):
        """The word for the moment at which a packet is read."""
        return self._when

    def __call__(self, row):
        return packet_read(self, row)

    def __str__(self):
        return f"{self._mark} {self._when} {table_text(self._table)}"

    def __eq__(self, other):
        if not isinstance(other, Reader):
            return False
        return read_alike(self, other)
