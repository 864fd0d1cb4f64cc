"""Standings: what matters at a place at which one value was sent, and the moves between them.

A standing is a tuple (state, owner, falses), a move a tuple (begin, end, kind, value). A walk over standings is a list
of pairs (standing ahead, move) behind the first piece.
"""

from fragweave.tables import entry_number

KINDS = ("greater", "less", "true")
# How a begin or an end may lie to that of the owner; rows have fewer places if equal ones are tried first.
LIES = (1, 0, 2)
# Where the value of each kind lies to that which was sent.
HEIGHTS = {"less": 0, "true": 1, "greater": 2}


def values_of(kind, owner):
    """Return the tuple of how the value of a new piece of this kind may lie to that of the owner."""
    if kind == owner:
        return (1,) if kind == "true" else (0, 1, 2)
    return (0,) if HEIGHTS[kind] < HEIGHTS[owner] else (2,)


def moves_over(owner):
    """Return the list of the moves that are possible over an owner."""
    return [(begin, end, kind, value) for begin in LIES for end in LIES for kind in KINDS
            for value in values_of(kind, owner)]


def entry_asked(table, standing, move):
    """Return the entry that a table asks for a move."""
    begin, end, _, value = move
    return table[standing[0]][entry_number(begin, end, value)]


def standing_behind(table, standing, move):
    """Return the standing behind a move."""
    _, owner, falses = standing
    kind = move[2]
    who, following = entry_asked(table, standing, move)
    return (following, kind if who == "new" else owner, falses + (0 if kind == "true" else 1))


def first_standing(kind):
    """Return the standing behind a first piece of this kind."""
    return (0, kind, 0 if kind == "true" else 1)


def first_standings(false):
    """Return the list of the standings behind first pieces with at most so many false ones."""
    return [standing for standing in [first_standing(kind) for kind in KINDS] if standing[2] <= false]


def steps_over(table, state, owner):
    """Return a list of (state, owner, falses, move), one for each unlike standing behind a state and an owner.

    The state and the owner are the next ones; falses is what the number of false pieces grows by, 0 or 1.
    """
    found = {}
    for move in moves_over(owner):
        step = standing_behind(table, (state, owner, 0), move)
        if step not in found:
            found[step] = move
    return [(*step, found[step]) for step in found]


def all_steps(table):
    """Return a dict from each pair (state, owner) to its list of steps_over."""
    return {(state, owner): steps_over(table, state, owner) for state in range(len(table)) for owner in KINDS}


def edges_among(table, false):
    """Return a dict from each standing that comes about, with at most so many false pieces, to its edges.

    An edge is (standing, trues, move): the standing behind the move, and 1 if the piece is true, otherwise 0.
    """
    steps = all_steps(table)
    edges = {}
    left = first_standings(false)
    while left:
        standing = left.pop()
        if standing in edges:
            continue
        state, owner, falses = standing
        edges[standing] = [((following, kind, falses + more), 1 - more, move)
                           for following, kind, more, move in steps[(state, owner)] if falses + more <= false]
        left.extend([follower for follower, _, _ in edges[standing]])
    return edges


def walked(edges, starts, all_true):
    """Return a dict from each standing that some moves lead to from one of the starts to (standing ahead, move).

    Of the starts it has None. With all_true the pieces are all true. What is found first has the fewest moves.
    """
    came = {start: None for start in starts}
    layer = list(came)
    while layer:
        behind = []
        for standing in layer:
            for follower, trues, move in edges[standing]:
                if follower not in came and (trues == 1 or not all_true):
                    came[follower] = (standing, move)
                    behind.append(follower)
        layer = behind
    return came


def moves_to(came, standing):
    """Return the start from which a standing is reached, and the list of the moves from there on."""
    moves = []
    while came[standing] is not None:
        standing, move = came[standing]
        moves.append(move)
    return standing, moves[::-1]


def ring_at(edges, standing):
    """Return the moves of true pieces alone from a standing back to it, None if there are none."""
    for follower, trues, move in edges[standing]:
        if trues == 1:
            came = walked(edges, [follower], True)
            if standing in came:
                return [move, *moves_to(came, standing)[1]]
    return None


def rest_from(edges, standing):
    """Return the moves of fewest pieces from a standing to one whose owner is not true, None if there are none."""
    came = walked(edges, [standing], False)
    wrong = [other for other in came if other[1] != "true"]
    return moves_to(came, wrong[0])[1] if wrong else None


def endless_way(edges, false):
    """Return (first, way, ring, rest) as in [18], None if none such are there."""
    came = walked(edges, first_standings(false), False)
    for standing in came:
        ring = ring_at(edges, standing)
        rest = rest_from(edges, standing) if ring is not None else None
        if rest is not None:
            (_, first, _), way = moves_to(came, standing)
            return (first, tuple(way), tuple(ring), tuple(rest))
    return None


def lefts_of(edges):
    """Return a dict from each standing to its least left; no endless way may be among the edges."""
    lefts = {standing: None if standing[1] == "true" else 0 for standing in edges}
    grows = True
    while grows:
        grows = False
        for standing in edges:
            for follower, trues, _ in edges[standing]:
                left = lefts[follower]
                if left is not None and (lefts[standing] is None or lefts[standing] < left + trues):
                    lefts[standing] = left + trues
                    grows = True
    return lefts


def least_true(lefts, false):
    """Return the least number of true pieces that is enough, by the lefts of all standings."""
    needed = [lefts[standing] + (2 if standing[1] == "true" else 1)
              for standing in first_standings(false) if lefts[standing] is not None]
    return max(needed, default=0)
