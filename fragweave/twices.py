"""Tables to which a piece that comes again does not matter.

A watch is a pair (state, letter): the state of one run, and how the piece that will come again, the twin, lies to
the owner; the letter is None as long as the twin did not come.
"""

from fragweave.classes import ORDERLESS, check_rows, is_in
from fragweave.integers import is_place, is_within
from fragweave.layouts import Layout, lay_steps
from fragweave.pieces import is_row
from fragweave.places import value_read
from fragweave.tables import entry_number
from fragweave.trios import (SAME, are_nodes_in, lie_between, node_between, number_between, owner_letters,
                             seeds_by_pieces, trios_of)
from fragweave.walks import is_closed_paper, steps_to, types_in, walk


def twin_moves(letter, rows):
    """Return a list of (step, old, new) for the pieces that may come.

    The twin lies to the owner as the letter tells. A step is (letter, number, whether this is the twin), with the
    number of the entry; old and new are how the twin then lies to the owner, by the word of the entry.
    """
    if letter is None:
        return [((further, entry_number(*further), twin), further if twin else None, SAME if twin else None)
                for further in owner_letters(rows) for twin in (False, True)]
    return [((further, number_between(points[2], points[0]), False), letter, lie_between(points[1], points[2]))
            for further, points in trios_of(letter, rows)]


def watches(table, rows):
    """Return (came, pieces): dicts from each watch to (watch ahead, step), and to the fewest pieces that lead to it.

    Of the two watches behind the first piece the first dict has None.
    """
    came = {(0, None): None, (0, SAME): None}
    pieces = {(0, None): 1, (0, SAME): 1}
    moves = {}
    layer = list(came)
    while layer:
        behind = []
        for watch in layer:
            state, letter = watch
            if letter not in moves:
                moves[letter] = twin_moves(letter, rows)
            for step, old, new in moves[letter]:
                who, following = table[state][step[1]]
                follower = (following, new if who == "new" else old)
                if follower not in came:
                    came[follower] = (watch, step)
                    pieces[follower] = pieces[watch] + 1
                    behind.append(follower)
        layer = behind
    return came, pieces


def entry_of_twin(table, watch):
    """Return the entry for the twin that comes again."""
    state, letter = watch
    number = entry_number(*letter)
    return table[state][number]


def twin_node(table, watch):
    """Return the node of two runs, the second one of which reads the twin again; None if the values are unlike."""
    state, letter = watch
    who, following = entry_of_twin(table, watch)
    return node_between((state, following), SAME, letter if who == "new" else SAME)


def twin_outcomes(table, rows):
    """Return a list of (pieces, node, origin) for all twins that come again behind so many pieces over the place.

    The origin is (watch, came) with the first of the two dicts of watches.
    """
    came, pieces = watches(table, rows)
    return [(pieces[watch], twin_node(table, watch), (watch, came)) for watch in came if watch[1] is not None]


def steps_to_watch(came, watch):
    """Return the watch behind the first piece, and the list of the steps from there on."""
    steps = []
    while came[watch] is not None:
        ahead, step = came[watch]
        steps.append((ahead, step))
        watch = ahead
    return watch, steps[::-1]


def lay_watch(layout, table, came, watch):
    """Add the pieces that lead to a watch, and return the numbers of the owner and of the twin."""
    (_, letter), steps = steps_to_watch(came, watch)
    owner = layout.lay_first()
    twin = None if letter is None else owner
    for (state, _), (further, asked, is_twin) in steps:
        number = layout.lay_letter([owner] if twin is None else [owner, twin], further)
        if is_twin:
            twin = number
        who, _ = table[state][asked]
        if who == "new":
            owner = number
    return owner, twin


def twin_row(table, rows, origin, steps):
    """Return ("bound", row, k, j, place) for the twin that the origin tells, and the steps behind it."""
    watch, came = origin
    layout = Layout(rows)
    owner, twin = lay_watch(layout, table, came, watch)
    ahead = layout.pieces_laid()
    who, _ = entry_of_twin(table, watch)
    lay_steps(layout, (table, table), [owner, twin if who == "new" else owner], steps)
    return ("bound", layout.laid_row(None), twin, ahead, layout.common_place())


def find_twice(table, *, rows="all"):
    """Return a twice paper of a table, with the fewest types or the fewest pieces."""
    check_rows(rows, ORDERLESS)
    came, fall = walk((table, table), seeds_by_pieces(twin_outcomes(table, rows)), rows)
    if fall is None:
        return ("free", types_in(came))
    origin, steps = steps_to(came, fall)
    return twin_row(table, rows, origin, steps)


def twice_holds(table, value, *, rows="all"):
    """Return whether any value is a twice paper of a table."""
    check_rows(rows, ORDERLESS)
    if not isinstance(value, tuple) or len(value) not in (2, 5):
        return False
    if len(value) == 2:
        if value[0] != "free":
            return False
        return is_closed_paper((table, table), value[1], rows) and are_nodes_in(twin_outcomes(table, rows), value[1])
    word, row, k, j, place = value
    if word != "bound" or not is_row(row) or not is_place(place) or not is_in(row, rows):
        return False
    if not is_within(k, 0, len(row) - 1) or not is_within(j, k + 1, len(row)):
        return False
    return value_read(table, row, place) != value_read(table, (*row[:j], row[k], *row[j:]), place)
