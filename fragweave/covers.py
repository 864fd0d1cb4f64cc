"""Tables that cover one another: where one reads the value that was sent, another one reads it, too."""

from fragweave.bounds import FALSE
from fragweave.counts import check_count, pieces_of_kinds
from fragweave.coverwalks import CoverWalk
from fragweave.integers import is_within
from fragweave.layouts import Layout
from fragweave.places import value_read
from fragweave.standings import HEIGHTS
from fragweave.tables import entry_number
from fragweave.types import is_ranks, is_states, lie_of, lies_of
from fragweave.walks import is_ascending, steps_to


def entries_for(tables, core, spot, place):
    """Return the entries of both tables for a new piece at a spot, its value at a place among the values of a core."""
    states, begins, ends, values = core
    return [table[state][entry_number(begin, end, lie_of(place, value))] for table, state, (begin, end), value
            in zip(tables, states, lies_of(spot, (begins, ends, ())), values[1:])]


def bare_paper(tables, kind, steps):
    """Return the cover paper with the row of a first piece of this kind and of the steps behind it.

    A step is (node ahead, (spot, place)).
    """
    layout = Layout()
    sent = layout.worth_at([], 0)
    owners = [layout.lay([], (0, 0), layout.worth_at([sent], HEIGHTS[kind]))] * 2
    for (core, _), (spot, place) in steps:
        worth = layout.worth_at([sent, *[layout.worth_of(owner) for owner in owners]], place)
        number = layout.lay(owners, spot, worth)
        entries = entries_for(tables, core, spot, place)
        owners = [number if who == "new" else owner for (who, _), owner in zip(entries, owners)]
    return ("bare", layout.laid_row(None), layout.common_place(), layout.value_of(sent))


def find_cover(one, other, false):
    """Return a cover paper of two tables, with the fewest types or the fewest pieces."""
    check_count(false, FALSE)
    came, fall = CoverWalk(one, other).reached(false)
    if fall is None:
        return ("covers", tuple(sorted([(*core, falses) for core, falses in came])))
    kind, steps = steps_to(came, fall)
    return bare_paper((one, other), kind, steps)


def is_cover_type(tables, false, value):
    """Return whether any value is a cover type of two runs with at most so many false pieces."""
    if not isinstance(value, tuple) or len(value) != 5:
        return False
    states, begins, ends, values, falses = value
    if not is_states(states, tables) or not is_ranks(begins, 2) or not is_ranks(ends, 2):
        return False
    return is_ranks(values, 3) and is_within(falses, 0, false)


def covers_holds(one, other, false, value):
    """Return whether any value is the types of a paper with the word "covers"."""
    if not isinstance(value, tuple) or not all([is_cover_type((one, other), false, item) for item in value]):
        return False
    nodes = {(tuple(item[:4]), item[4]): True for item in value}
    return is_ascending(value) and CoverWalk(one, other).is_closed(nodes, false)


def bare_holds(one, other, false, row, place, value):
    """Return whether any values are the parts of a paper with the word "bare"."""
    kinds = pieces_of_kinds(row, place, value)
    if kinds is None or kinds[0] > false:
        return False
    return value_read(other, row, place) == value and value_read(one, row, place) != value


def cover_holds(one, other, false, value):
    """Return whether any value is a cover paper of two tables."""
    check_count(false, FALSE)
    if not isinstance(value, tuple):
        return False
    if len(value) == 2:
        return value[0] == "covers" and covers_holds(one, other, false, value[1])
    if len(value) != 4 or value[0] != "bare":
        return False
    _, row, place, sent = value
    return bare_holds(one, other, false, row, place, sent)
