"""Tables to which the order of the pieces does not matter."""

from fragweave.classes import ORDERLESS, check_rows, is_in
from fragweave.integers import is_place
from fragweave.layouts import Layout, lay_steps
from fragweave.pieces import is_row
from fragweave.places import value_read
from fragweave.tables import entry_number, turned_number
from fragweave.trios import (SAME, are_nodes_in, node_between, number_between, owner_letters, seeds_by_pieces,
                             trios_of)
from fragweave.walks import first_seeds, is_closed_paper, steps_to, types_in, walk


def swaps_behind(letter, rows):
    """Return a list of swaps (letter, further, points, asked): all second pieces behind a first one with a letter.

    asked is a dict with the numbers of the entries for (new, owner), both being numbers of points.
    """
    swaps = []
    for further, points in trios_of(letter, rows):
        owner, first, second = points
        number = number_between(second, first)
        asked = {(1, 0): entry_number(*letter), (2, 0): number_between(second, owner), (2, 1): number,
                 (1, 2): turned_number(number)}
        swaps.append((letter, further, points, asked))
    return swaps


def holding_behind(table, holding, asked, order):
    """Return (owner, state) behind the pieces with these numbers in this order."""
    for number in order:
        if holding is None:
            holding = (number, 0)
        else:
            owner, state = holding
            who, following = table[state][asked[(number, owner)]]
            holding = (number if who == "new" else owner, following)
    return holding


def holdings_behind(table, state, swap):
    """Return the holdings of two runs that read the two pieces of a swap in their two orders.

    If the state ahead is None, they are the first ones over the place.
    """
    holding = None if state is None else (0, state)
    return [holding_behind(table, holding, swap[3], order) for order in ((1, 2), (2, 1))]


def swap_node(table, state, swap):
    """Return the node of two runs behind the two pieces in their two orders, None if they read unlike values."""
    (one, state_one), (other, state_other) = holdings_behind(table, state, swap)
    points = swap[2]
    return node_between((state_one, state_other), points[one], points[other])


def is_unlike(outcomes):
    """Return whether the runs of one of these outcomes read unlike values."""
    return any([node is None for _, node, _ in outcomes])


def swap_outcomes(table, rows):
    """Return a list of (pieces, node, origin) for exchanges of the last two of so many pieces over the place.

    The node is None if the runs then read unlike values. The origin is (steps, state, swap) with the steps to the
    state ahead; the state is None if the two are the first ones over the place. If some runs read unlike values, the
    list ends with the fewest pieces with which they do.
    """
    outcomes = [(2, swap_node(table, None, swap), ([], None, swap)) for swap in swaps_behind(SAME, rows)]
    if is_unlike(outcomes):
        return outcomes
    swaps = [swap for letter in owner_letters(rows) for swap in swaps_behind(letter, rows)]
    ahead, _ = walk((table,), first_seeds(1, rows), rows)
    for node in ahead:
        (state,), _ = node
        steps = steps_to(ahead, (node, None))[1][:-1]
        outcomes.extend([(len(steps) + 3, swap_node(table, state, swap), (steps, state, swap)) for swap in swaps])
        if is_unlike(outcomes):
            break
    return outcomes


def swapped_rows(table, rows, origin, steps):
    """Return ("bound", row, other, place) for the exchange that the origin tells, and the steps behind it."""
    steps_ahead, state, swap = origin
    letter, further, _, _ = swap
    layout = Layout(rows)
    owner = layout.lay_first()
    if state is None:
        numbers = [owner, owner, layout.lay_letter([owner], further)]
    else:
        owner, = lay_steps(layout, (table,), [owner], steps_ahead)
        first = layout.lay_letter([owner], letter)
        numbers = [owner, first, layout.lay_letter([owner, first], further)]
    held = [numbers[number] for number, _ in holdings_behind(table, state, swap)]
    lay_steps(layout, (table, table), held, steps)
    row = layout.laid_row(None)
    at = numbers[2]
    other = (*row[:at - 1], row[at], row[at - 1], *row[at + 1:])
    return ("bound", row, other, layout.common_place())


def find_order(table, *, rows="all"):
    """Return an order paper of a table, with the fewest types or the fewest pieces."""
    check_rows(rows, ORDERLESS)
    came, fall = walk((table, table), seeds_by_pieces(swap_outcomes(table, rows)), rows)
    if fall is None:
        return ("free", types_in(came))
    origin, steps = steps_to(came, fall)
    return swapped_rows(table, rows, origin, steps)


def counts_of(row):
    """Return a dict with how often each piece is in a row."""
    counts = {}
    for piece in row:
        counts[piece] = counts.get(piece, 0) + 1
    return counts


def order_holds(table, value, *, rows="all"):
    """Return whether any value is an order paper of a table."""
    check_rows(rows, ORDERLESS)
    if not isinstance(value, tuple) or len(value) not in (2, 4):
        return False
    if len(value) == 2:
        if value[0] != "free":
            return False
        return is_closed_paper((table, table), value[1], rows) and are_nodes_in(swap_outcomes(table, rows), value[1])
    word, row, other, place = value
    if word != "bound" or not is_row(row) or not is_row(other) or not is_place(place):
        return False
    if not is_in(row, rows) or counts_of(row) != counts_of(other):
        return False
    return value_read(table, row, place) != value_read(table, other, place)
