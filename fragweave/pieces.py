"""Pieces and rows."""

from fragweave.bounds import PIECES, SIZE, VALUE
from fragweave.errors import TooLong
from fragweave.integers import is_integer, is_within


def is_item(value):
    """Return whether any value is what a piece may have at a place."""
    return value is None or is_within(value, 0, VALUE)


def is_piece(value):
    """Return whether any value is a piece."""
    if not isinstance(value, tuple) or len(value) != 3:
        return False
    begin, values, last = value
    if not is_integer(begin) or begin < 0 or not isinstance(last, bool):
        return False
    if not isinstance(values, tuple) or not 1 <= len(values) <= SIZE - begin:
        return False
    return all([is_item(item) for item in values])


def is_row(value):
    """Return whether any value is a row."""
    if not isinstance(value, tuple) or len(value) > PIECES:
        return False
    return all([is_piece(piece) for piece in value])


def end_of(piece):
    """Return the end of a piece."""
    return piece[0] + len(piece[1])


def greatest_end(row):
    """Return the greatest end of the pieces of a row, 0 for ()."""
    return max([end_of(piece) for piece in row], default=0)


def places_of(piece):
    """Return the ascending tuple of the places that a piece covers."""
    return tuple([place for place, item in enumerate(piece[1], start=piece[0]) if item is not None])


def value_at(piece, place):
    """Return the value of a piece at a place, None if it does not cover it."""
    if piece[0] <= place < end_of(piece):
        return piece[1][place - piece[0]]
    return None


def over(row, place):
    """Return the ascending tuple of the numbers of the pieces that cover a place."""
    return tuple([number for number, piece in enumerate(row) if value_at(piece, place) is not None])


def stretched(row, numbers):
    """Return the row with each place moved and widened to where the ascending numbers put it."""
    # The numbers may be huge, so nothing is built before the end is known to be within the limit.
    end = max([numbers[end_of(piece)] for piece in row], default=0)
    if end > SIZE:
        raise TooLong(end)
    return tuple([stretched_piece(piece, numbers) for piece in row])


def stretched_piece(piece, numbers):
    """Return the piece as stretched returns it in its row."""
    begin, values, last = piece
    items = []
    for place, item in enumerate(values, start=begin):
        items.extend([item] * (numbers[place + 1] - numbers[place]))
    return (numbers[begin], tuple(items), last)
