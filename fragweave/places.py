"""What a table reads at one place, step by step.

A holding is a tuple (owner, state): the number of the piece that owns a place, and the state there. It is None as
long as no piece covers the place.
"""

from fragweave.pieces import end_of, over, value_at
from fragweave.tables import entry_number


def compared(one, other):
    """Return how one integer lies to another one: 0 for less, 1 for equal, 2 for greater."""
    if one < other:
        return 0
    return 1 if one == other else 2


def entry_between(table, state, owner, new, place):
    """Return the entry of a state for a new piece and the owner of a place that both cover."""
    begin = compared(new[0], owner[0])
    end = compared(end_of(new), end_of(owner))
    value = compared(value_at(new, place), value_at(owner, place))
    return table[state][entry_number(begin, end, value)]


def next_holding(table, row, holding, number, place):
    """Return the holding behind the piece with this number, which covers the place."""
    if holding is None:
        return (number, 0)
    owner, state = holding
    who, following = entry_between(table, state, row[owner], row[number], place)
    return (number if who == "new" else owner, following)


def steps_at(table, row, place):
    """Return (number, owner, state) for each piece of a row that covers the place."""
    steps = []
    holding = None
    for number in over(row, place):
        holding = next_holding(table, row, holding, number, place)
        steps.append((number, *holding))
    return tuple(steps)


def owner_at(table, row, place):
    """Return the number of the last owner of a place, None if no piece covers it."""
    steps = steps_at(table, row, place)
    return steps[-1][1] if steps else None


def value_read(table, row, place):
    """Return the value that is read at a place, None if no piece covers it."""
    owner = owner_at(table, row, place)
    return None if owner is None else value_at(row[owner], place)
