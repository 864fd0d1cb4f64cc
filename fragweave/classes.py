"""The classes of rows."""

from fragweave.errors import BadRows
from fragweave.pieces import end_of, places_of

CLASSES = ("all", "nested", "stairs", "begins", "ends")
# The classes in which a row stays when its pieces change places.
ORDERLESS = ("all", "nested", "stairs")


def check_rows(rows, classes):
    """Raise BadRows if any value is none of these words for classes."""
    if rows not in classes:
        raise BadRows(rows)


def spans_at(row):
    """Return a dict with, for each covered place, the ascending list of the (begin, end) of the pieces over it."""
    spans = {}
    for piece in row:
        span = (piece[0], end_of(piece))
        for place in places_of(piece):
            spans.setdefault(place, {})[span] = True
    return {place: sorted(spans[place]) for place in spans}


def is_nested(one, other):
    """Return whether of two spans the first one begins earlier and ends later."""
    return one[0] < other[0] and one[1] > other[1]


def is_stairs(one, other):
    """Return whether of two spans the first one begins earlier and ends earlier."""
    return one[0] < other[0] and one[1] < other[1]


def all_lie(row, relation):
    """Return whether, of every two unlike spans of pieces over one place, one lies so to the other."""
    # Both relations carry over from one span to the next and on, so neighbours in ascending order are enough.
    for spans in spans_at(row).values():
        if not all([relation(one, other) for one, other in zip(spans, spans[1:])]):
            return False
    return True


def ascends(numbers):
    """Return whether no number is less than the one before it."""
    return all([one <= other for one, other in zip(numbers, numbers[1:])])


def is_in(row, rows):
    """Return whether a row is in the class with this word."""
    check_rows(rows, CLASSES)
    if rows == "nested":
        return all_lie(row, is_nested)
    if rows == "stairs":
        return all_lie(row, is_stairs)
    if rows == "begins":
        return ascends([piece[0] for piece in row])
    if rows == "ends":
        return ascends([end_of(piece) for piece in row])
    return True
