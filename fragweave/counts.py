"""Numbers of pieces, and the pieces that are true and false at a place."""

from fragweave.bounds import VALUE
from fragweave.errors import BadCount
from fragweave.integers import is_place, is_within
from fragweave.pieces import is_row, over, value_at


def check_count(value, most):
    """Raise BadCount if any value is not an integer from 0 to most."""
    if not is_within(value, 0, most):
        raise BadCount(value)


def pieces_of_kinds(row, place, value):
    """Return (falses, trues): how many pieces of a row have another value at a place, and how many have this one.

    All may be any values; None is returned if they are not a row, a place, and a value.
    """
    if not is_row(row) or not is_place(place) or not is_within(value, 0, VALUE):
        return None
    values = [value_at(row[number], place) for number in over(row, place)]
    return len(values) - values.count(value), values.count(value)
