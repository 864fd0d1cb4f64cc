"""Tables that are right: how many true pieces are enough against some false ones."""

from fragweave.bounds import FALSE, TRUE
from fragweave.counts import check_count, pieces_of_kinds
from fragweave.integers import is_place, is_within
from fragweave.layouts import Layout
from fragweave.places import value_read
from fragweave.standings import (HEIGHTS, KINDS, all_steps, edges_among, endless_way, entry_asked, first_standing,
                                 first_standings, least_true, lefts_of, moves_over, moves_to, standing_behind,
                                 values_of)
from fragweave.walks import is_ascending


def worth_for(layout, sent, owner_worth, owner, move):
    """Return the slot of the value of a piece with this move, sent being the slot of the value that was sent."""
    _, _, kind, value = move
    if kind == "true":
        return sent
    marks = [sent, owner_worth]
    if kind == owner:
        return layout.worth_at(marks, value if kind == "less" else value + 2)
    if kind == "less":
        return layout.worth_at(marks, 0)
    return layout.worth_at(marks, 2 if owner == "true" else 4)


def laid_moves(table, kind, moves):
    """Return (row, place, value) for a first piece of this kind and the moves behind it, value being the one sent."""
    layout = Layout()
    sent = layout.worth_at([], 0)
    owner = layout.lay([], (0, 0), layout.worth_at([sent], HEIGHTS[kind]))
    standing = first_standing(kind)
    for move in moves:
        number = layout.lay([owner], move, worth_for(layout, sent, layout.worth_of(owner), standing[1], move))
        who, _ = entry_asked(table, standing, move)
        owner = number if who == "new" else owner
        standing = standing_behind(table, standing, move)
    return (layout.laid_row(None), layout.common_place(), layout.value_of(sent))


def wrong_moves(table, false, true):
    """Return the kind of the first piece and the moves of fewest pieces to a wrong value, None if there are none.

    At most so many pieces are false, at least so many true.
    """
    steps = all_steps(table)
    came = {(state, owner, falses, min(1 - falses, true)): None for state, owner, falses in first_standings(false)}
    layer = list(came)
    while layer:
        behind = []
        for node in layer:
            state, owner, falses, trues = node
            if owner != "true" and trues == true:
                (_, kind, _, _), moves = moves_to(came, node)
                return kind, moves
            for following, kind, more, move in steps[(state, owner)]:
                follower = (following, kind, falses + more, min(trues + 1 - more, true))
                if follower[2] <= false and follower not in came:
                    came[follower] = (node, move)
                    behind.append(follower)
        layer = behind
    return None


def wrong_row(table, false, true):
    """Return (row, place, value) with a row of the fewest pieces of which the value is not read, None if none is."""
    check_count(false, FALSE)
    check_count(true, TRUE)
    enough = right_from(table, false)
    if enough is not None and true >= enough:
        return None
    kind, moves = wrong_moves(table, false, true)
    return laid_moves(table, kind, moves)


def right_from(table, false):
    """Return the least number of true pieces with which the table is right, None if there is none."""
    check_count(false, FALSE)
    edges = edges_among(table, false)
    if endless_way(edges, false) is not None:
        return None
    return least_true(lefts_of(edges), false)


def price_of(table, true):
    """Return the least number of false pieces with which the table is not right, None if it is right with all."""
    check_count(true, TRUE)
    for false in range(FALSE + 1):
        enough = right_from(table, false)
        if enough is None or true < enough:
            return false
    return None


def find_right(table, false):
    """Return a right paper of a table."""
    check_count(false, FALSE)
    edges = edges_among(table, false)
    endless = endless_way(edges, false)
    if endless is not None:
        return ("never", *endless)
    lefts = lefts_of(edges)
    enough = least_true(lefts, false)
    rows = tuple(sorted([(*standing, lefts[standing]) for standing in lefts]))
    if enough == 0:
        return ("from", 0, rows, None, None, None)
    kind, moves = wrong_moves(table, false, enough - 1)
    return ("from", enough, rows, *laid_moves(table, kind, moves))


def is_lefts_row(table, false, value):
    """Return whether any value is a standing with at most so many false pieces, and a left."""
    if not isinstance(value, tuple) or len(value) != 4:
        return False
    state, owner, falses, left = value
    if not is_within(state, 0, len(table) - 1) or owner not in KINDS or not is_within(falses, 0, false):
        return False
    return is_place(left) if left is not None else owner == "true"


def are_lefts(table, false, value):
    """Return whether any value is an ascending tuple of standings with their lefts."""
    if not isinstance(value, tuple) or not all([is_lefts_row(table, false, row) for row in value]):
        return False
    # Two rows of the same standing cannot stand there, so lefts never are compared.
    return is_ascending([row[:3] for row in value])


def is_enough(left, behind, trues):
    """Return whether a left is great enough ahead of a piece, true or not, behind which there is another left."""
    return behind is None or (left is not None and left >= behind + trues)


def lefts_hold(table, false, lefts):
    """Return whether a dict of lefts has each standing that it needs, and is great enough for all moves."""
    for standing in lefts:
        for move in moves_over(standing[1]):
            follower = standing_behind(table, standing, move)
            if follower[2] > false:
                continue
            if follower not in lefts:
                return False
            if not is_enough(lefts[standing], lefts[follower], 1 if move[2] == "true" else 0):
                return False
    return True


def firsts_hold(false, lefts, enough):
    """Return whether a number of true pieces is enough behind all first pieces, by a dict of lefts."""
    for standing in first_standings(false):
        if standing not in lefts:
            return False
        left = lefts[standing]
        if left is not None and enough <= left + (1 if standing[1] == "true" else 0):
            return False
    return True


def is_wrong_row(table, false, enough, row, place, value):
    """Return whether any values are a row that shows that one true piece less is not enough."""
    if enough == 0:
        return row is None and place is None and value is None
    kinds = pieces_of_kinds(row, place, value)
    if kinds is None:
        return False
    falses, trues = kinds
    if falses > false or trues < enough - 1 or falses + trues == 0:
        return False
    return value_read(table, row, place) != value


def from_holds(table, false, paper):
    """Return whether a tuple of six items is a right paper with the word "from"."""
    word, enough, rows, row, place, value = paper
    if word != "from" or not is_place(enough) or not are_lefts(table, false, rows):
        return False
    lefts = {tuple(item[:3]): item[3] for item in rows}
    if not firsts_hold(false, lefts, enough) or not lefts_hold(table, false, lefts):
        return False
    return is_wrong_row(table, false, enough, row, place, value)


def is_move(value, owner):
    """Return whether any value is a move that is possible over an owner."""
    if not isinstance(value, tuple) or len(value) != 4:
        return False
    begin, end, kind, lie = value
    if not is_within(begin, 0, 2) or not is_within(end, 0, 2) or kind not in KINDS or not is_within(lie, 0, 2):
        return False
    return lie in values_of(kind, owner)


def standing_along(table, false, standing, value):
    """Return the standing behind any value as a tuple of moves from a standing on.

    None is returned if it is not one, or if more pieces are false.
    """
    if standing is None or not isinstance(value, tuple):
        return None
    for move in value:
        if not is_move(move, standing[1]):
            return None
        standing = standing_behind(table, standing, move)
        if standing[2] > false:
            return None
    return standing


def never_holds(table, false, paper):
    """Return whether a tuple of five items is a right paper with the word "never"."""
    word, first, way, ring, rest = paper
    if word != "never" or first not in KINDS or first_standing(first) not in first_standings(false):
        return False
    start = standing_along(table, false, first_standing(first), way)
    last = standing_along(table, false, start, rest)
    if last is None or last[1] == "true" or standing_along(table, false, start, ring) != start:
        return False
    return len(ring) > 0 and all([move[2] == "true" for move in ring])


def right_holds(table, false, value):
    """Return whether any value is a right paper of a table."""
    check_count(false, FALSE)
    if not isinstance(value, tuple):
        return False
    if len(value) == 6:
        return from_holds(table, false, value)
    return len(value) == 5 and never_holds(table, false, value)
