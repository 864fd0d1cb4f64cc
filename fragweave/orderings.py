"""The packets of all orders, and of all weaves, of given pieces."""

from fragweave.errors import TooMany
from fragweave.mixes import mixes_read

MOST_ORDERED = 7
MOST_WOVEN = 8


def orders_read(reader, row):
    """Return a tuple of (packet, number, example) for each packet that a reader reads of a row in some order."""
    if len(row) > MOST_ORDERED:
        raise TooMany(MOST_ORDERED)
    return mixes_read(reader, row, tuple([(number,) for number in range(len(row))]))


def weaves_read(reader, row, other):
    """Return a tuple of (packet, number, example) for each packet that a reader reads of two rows in some weave."""
    if len(row) > MOST_WOVEN or len(other) > MOST_WOVEN:
        raise TooMany(MOST_WOVEN)
    both = (*row, *other)
    return mixes_read(reader, both, (tuple(range(len(row))), tuple(range(len(row), len(both)))))
