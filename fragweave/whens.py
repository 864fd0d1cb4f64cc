"""Rows that a late reader and an early one read unlike, both with the mark "first".

The early one reads the value that the first piece has at a place, the late one another value at last. The places
ahead have to be covered when the early one reads: either by the pieces themselves, of which then none may begin ahead
of all that the early one knows, or by one piece more.
"""

from fragweave.layouts import Layout, lay_steps
from fragweave.tables import entry_number, first_table
from fragweave.types import lie_of
from fragweave.walks import first_seeds, steps_to, walk


def change_steps(table):
    """Return the steps of fewest pieces, behind the first one, to a value that is not the first one; None if none."""
    tables = (table, first_table())
    came, fall = walk(tables, first_seeds(2, "all"), "all")
    return None if fall is None else steps_to(came, fall)[1]


def floor_moves(low):
    """Return a list of (letter, number, floor) for the pieces that may come.

    low tells whether the owner begins as early as any piece does, otherwise the letter is told among the earliest
    piece and the owner. The number is that of the entry, floor tells whether the piece begins ahead of all others.
    """
    rank = 0 if low else 1
    return [((begin, end, value), entry_number(lie_of(begin, rank), end, value), begin == 0)
            for begin in range(2 * rank + 3) for end in range(3) for value in range(3)]


def is_low_behind(low, who, begin):
    """Return whether the owner behind a piece begins as early as any piece does."""
    if who == "new":
        return begin < 2
    return low and begin > 0


def floor_steps(table):
    """Return the steps of fewest pieces to another value, of which the last one is not the one that begins earliest.

    A step is (low, state, letter), as floor_moves tells it. None is returned if there are no such steps.
    """
    came = {(0, True): None}
    layer = [(0, True)]
    while layer:
        behind = []
        for state, low in layer:
            for letter, number, floor in floor_moves(low):
                who, following = table[state][number]
                if who == "new" and letter[2] != 1:
                    if not floor:
                        return steps_back(came, (state, low), letter)
                    continue
                node = (following, is_low_behind(low, who, letter[0]))
                if node not in came:
                    came[node] = ((state, low), letter)
                    behind.append(node)
        layer = behind
    return None


def steps_back(came, node, letter):
    """Return the list of (node, letter) from the first piece on up to this one."""
    steps = [(node, letter)]
    while came[node] is not None:
        node, letter = came[node]
        steps.append((node, letter))
    return steps[::-1]


def floor_row(table, steps):
    """Return the row of floor steps; its last piece but one has last."""
    layout = Layout()
    owner = floor = layout.lay_first()
    for (state, low), letter in steps:
        begin, end, value = letter
        worth = layout.worth_at([layout.worth_of(owner)], value)
        number = layout.lay_between([floor, owner], begin, [owner], end, worth)
        who, _ = table[state][entry_number(lie_of(begin, 0 if low else 1), end, value)]
        floor = number if begin == 0 else floor
        owner = number if who == "new" else owner
    return layout.laid_row(len(steps) - 1)


def covered_row(table, steps):
    """Return the row of change steps behind a piece that covers all places ahead; the second piece has last."""
    layout = Layout()
    lay_steps(layout, (table, first_table()), [layout.lay_first()] * 2, steps)
    return ((0, (0,) * layout.common_place(), False), *layout.laid_row(0))


def unlike_whens_row(table):
    """Return a row of the fewest pieces which a late reader with this table may read unlike an early one.

    It does if the early one reads, of all pieces but one, the value that the first piece has. None is returned if
    the table reads always the first value.
    """
    steps = change_steps(table)
    if steps is None:
        return None
    within = floor_steps(table)
    if within is not None and len(within) == len(steps):
        return floor_row(table, within)
    return covered_row(table, steps)
