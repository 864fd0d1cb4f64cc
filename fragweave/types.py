"""Types: what matters of the moment at which one to three runs read the same value at a place.

A shape is what a type has beside its states: the tuple (begins, ends, tops). A spot is what a letter has beside its
value: the pair (begin, end). All places among ranks are told as in letters: 2 * r + 1 is at the rank r, and 2 * r
is below it and above the one before.
"""

from fragweave.classes import CLASSES, check_rows
from fragweave.integers import is_integer, is_within
from fragweave.places import compared
from fragweave.tables import entry_number

# The classes whose types have tops, each with the number of the side of a spot that the tops are about.
TOP_SIDES = {"begins": 0, "ends": 1}
# How the begin and the end of a new piece may lie to those of an owner.
NESTED_LIES = ((1, 1), (0, 2), (2, 0))
STAIRS_LIES = ((1, 1), (0, 0), (2, 2))


def ranked(numbers):
    """Return the tuple of the ranks of some numbers."""
    ranks = {number: rank for rank, number in enumerate(sorted(set(numbers)))}
    return tuple([ranks[number] for number in numbers])


def lie_of(place, rank):
    """Return how a place among ranks lies to a rank: 0 for below, 1 for equal, 2 for above."""
    return compared(place, 2 * rank + 1)


def places_among(ranks):
    """Return the ascending list of all places among these ranks."""
    return list(range(2 * max(ranks) + 3))


def lies_of(spot, shape):
    """Return a list with, for each run, how a spot lies to the begin and to the end of its owner."""
    begins, ends, _ = shape
    return [(lie_of(spot[0], begin), lie_of(spot[1], end)) for begin, end in zip(begins, ends)]


def is_possible(spot, shape, rows):
    """Return whether a piece at this spot is possible at a shape in the class."""
    lies = lies_of(spot, shape)
    if rows == "nested":
        return all([lie in NESTED_LIES for lie in lies])
    if rows == "stairs":
        return all([lie in STAIRS_LIES for lie in lies])
    if rows in TOP_SIDES:
        side = TOP_SIDES[rows]
        return all([lie[side] == 2 or (top and lie[side] == 1) for lie, top in zip(lies, shape[2])])
    return True


def spots_of(shape, rows):
    """Return the ascending list of the spots that are possible at a shape in the class."""
    begins, ends, _ = shape
    spots = [(begin, end) for begin in places_among(begins) for end in places_among(ends)]
    return [spot for spot in spots if is_possible(spot, shape, rows)]


def ranks_behind(ranks, place, takes):
    """Return the ranks of the owners behind a new piece at this place, takes telling which runs it is taken by."""
    return ranked([place if new else 2 * rank + 1 for rank, new in zip(ranks, takes)])


def tops_behind(shape, spot, takes, rows):
    """Return the tops behind a new piece at this spot, takes telling which runs it is taken by."""
    if rows not in TOP_SIDES:
        return ()
    side = TOP_SIDES[rows]
    return tuple([new or (top and lie_of(spot[side], rank) == 1)
                  for top, rank, new in zip(shape[2], shape[side], takes)])


def shape_behind(shape, spot, takes, rows):
    """Return the shape behind a new piece at this spot, takes telling which runs it is taken by."""
    begins, ends, _ = shape
    return (ranks_behind(begins, spot[0], takes), ranks_behind(ends, spot[1], takes),
            tops_behind(shape, spot, takes, rows))


def first_shape(many, rows):
    """Return the shape of so many runs behind the first piece."""
    zeros = (0,) * many
    return (zeros, zeros, (True,) * many if rows in TOP_SIDES else ())


def first_type(many, *, rows="all"):
    """Return the type of so many runs behind the first piece."""
    check_rows(rows, CLASSES)
    return ((0,) * many, *first_shape(many, rows))


def letters_of(start, *, rows="all"):
    """Return the ascending tuple of the letters that are possible at a type."""
    check_rows(rows, CLASSES)
    _, *shape = start
    return tuple([(*spot, value) for spot in spots_of(shape, rows) for value in range(3)])


def next_type(tables, start, letter, *, rows="all"):
    """Return the type behind a letter that is possible, None if the runs then read unlike values."""
    check_rows(rows, CLASSES)
    states, *shape = start
    *spot, value = letter
    numbers = [entry_number(*lie, value) for lie in lies_of(spot, shape)]
    entries = [table[state][number] for table, state, number in zip(tables, states, numbers)]
    takes = [who == "new" for who, _ in entries]
    if value != 1 and any(takes) and not all(takes):
        return None
    return (tuple([following for _, following in entries]), *shape_behind(shape, spot, takes, rows))


def is_ranks(value, many):
    """Return whether any value is the tuple of so many ranks."""
    if not isinstance(value, tuple) or len(value) != many or not all([is_integer(rank) for rank in value]):
        return False
    return value == ranked(value)


def is_states(value, tables):
    """Return whether any value is a tuple of one state of each table."""
    if not isinstance(value, tuple) or len(value) != len(tables):
        return False
    return all([is_within(state, 0, len(table) - 1) for state, table in zip(value, tables)])


def is_tops(value, many, rows):
    """Return whether any value is the tops of so many runs in the class."""
    if rows not in TOP_SIDES:
        return isinstance(value, tuple) and len(value) == 0
    return isinstance(value, tuple) and len(value) == many and all([isinstance(top, bool) for top in value])


def is_type(tables, value, *, rows="all"):
    """Return whether any value is by its form a type of these runs."""
    check_rows(rows, CLASSES)
    if not isinstance(value, tuple) or len(value) != 4:
        return False
    states, begins, ends, tops = value
    many = len(tables)
    return (is_states(states, tables) and is_ranks(begins, many) and is_ranks(ends, many)
            and is_tops(tops, many, rows))
