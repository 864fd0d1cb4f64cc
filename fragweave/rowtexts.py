"""The texts of pieces and rows."""

from fragweave.bounds import PIECES, SIZE, VALUE
from fragweave.errors import BadText
from fragweave.integers import integer_read
from fragweave.pieces import is_piece

NO_PIECES = "-"
NO_VALUE = "."


def item_text(item):
    """Return the text of what a piece has at a place."""
    return NO_VALUE if item is None else str(item)


def piece_text(piece):
    """Return the text of a piece."""
    begin, values, last = piece
    items = ",".join([item_text(item) for item in values])
    return f"{begin}:{items}!" if last else f"{begin}:{items}"


def row_text(row):
    """Return the text of a row."""
    return " ".join([piece_text(piece) for piece in row]) if row else NO_PIECES


def is_item_text(word):
    """Return whether a str is the text of what a piece may have at a place."""
    return word == NO_VALUE or integer_read(word, VALUE) is not None


def piece_read(word):
    """Return the piece with this str as its text, None if there is none."""
    start, _, rest = word.partition(":")
    begin = integer_read(start, SIZE)
    words = rest.removesuffix("!").split(",")
    if not all([is_item_text(item) for item in words]):
        return None
    piece = (begin, tuple([integer_read(item, VALUE) for item in words]), rest.endswith("!"))
    return piece if is_piece(piece) else None


def parse_piece(value):
    """Return the piece with this text."""
    if not isinstance(value, str):
        raise BadText(None)
    piece = piece_read(value)
    if piece is None:
        raise BadText(0)
    return piece


def parse_row(value):
    """Return the row with this text."""
    if not isinstance(value, str):
        raise BadText(None)
    if value == NO_PIECES:
        return ()
    row = []
    for number, word in enumerate(value.split(" ")):
        piece = piece_read(word)
        if number == PIECES or piece is None:
            raise BadText(number)
        row.append(piece)
    return tuple(row)
