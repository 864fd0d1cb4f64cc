"""Tables as objects."""

from fragweave.alike import are_alike
from fragweave.errors import BadTable, NoEntry
from fragweave.integers import is_within
from fragweave.making import mirrored, then_table
from fragweave.pieces import greatest_end, is_row
from fragweave.places import value_read
from fragweave.reading import first_covers
from fragweave.readertexts import table_text
from fragweave.tables import SIGNS, entry_of, table_error


def is_entry_key(value, states):
    """Return whether any value is (state, begin, end, value) of an entry of a table with so many states."""
    if not isinstance(value, tuple) or len(value) != 4:
        return False
    state, *signs = value
    return is_within(state, 0, states - 1) and all([sign in SIGNS for sign in signs])


class Rule:
    """A table that is asked by signs. It never changes."""

    def __init__(self, table):
        error = table_error(table)
        if error is not None:
            raise BadTable(error)
        self._table = table

    @property
    def table(self):
        """The table that is asked."""
        return self._table

    def __call__(self, row, place):
        return value_read(self._table, row, place)

    def __getitem__(self, at):
        if not is_entry_key(at, len(self._table)):
            raise NoEntry(at)
        state, begin, end, value = at
        return entry_of(self._table, state, begin, end, value)

    def __contains__(self, x):
        return is_row(x) and None not in first_covers(x, greatest_end(x))

    def __invert__(self):
        return Rule(mirrored(self._table))

    def then(self, count, other):
        """Return the Rule that reads as this one as long as at most so many pieces have come, then as the other one."""
        return Rule(then_table(self._table, count, other.table))

    def __len__(self):
        return len(self._table)

    def __eq__(self, other):
        if not isinstance(other, Rule):
            return False
        return are_alike(self._table, other.table)

    def __str__(self):
        return str(table_text(self._table))

    def __iter__(self):
        raise TypeError("a Rule is not looped over")
