"""Walks over types: what types come about, and behind what letters.

A node is a type as the pair (states, shape). A walk goes piece by piece, so that what it finds first has the fewest
pieces. It begins at seeds: a list with, for each number of pieces, the list of pairs (node, origin) that come about
behind so many pieces; the node is None where the runs then read unlike values.
"""

from fragweave.tables import entry_number
from fragweave.types import first_shape, is_type, lies_of, places_among, ranks_behind, spots_of, tops_behind


def takes_of(many):
    """Return a list of (words, takes) for all words that the entries of so many runs may have."""
    takes = [()]
    for _ in range(many):
        takes = [(*some, new) for some in takes for new in (False, True)]
    return [(tuple(["new" if new else "old" for new in some]), some) for some in takes]


def ranks_at(ranks, takes):
    """Return a list with, for each place among ranks, a dict from words to the ranks behind a new piece there."""
    return [{words: ranks_behind(ranks, place, some) for words, some in takes} for place in places_among(ranks)]


def moves_from(shape, rows):
    """Return a list of (letter, numbers, behind) for the letters that are possible at a shape.

    The numbers are those of the entries that the runs ask for; behind is a dict from the words of these entries to
    the next shape, without those words with which the runs read unlike values.
    """
    moves = []
    takes = takes_of(len(shape[0]))
    begins, ends = ranks_at(shape[0], takes), ranks_at(shape[1], takes)
    for spot in spots_of(shape, rows):
        behind = {words: (begins[spot[0]][words], ends[spot[1]][words], tops_behind(shape, spot, some, rows))
                  for words, some in takes}
        alike = {words: behind[words] for words, some in takes if all(some) or not any(some)}
        lies = lies_of(spot, shape)
        for value in range(3):
            numbers = [entry_number(*lie, value) for lie in lies]
            moves.append(((*spot, value), numbers, behind if value == 1 else alike))
    return moves


def followers_of(tables, states, moves):
    """Return a list of (letter, node) for all moves, node being None where the runs then read unlike values."""
    found = []
    for letter, numbers, behind in moves:
        entries = [table[state][number] for table, state, number in zip(tables, states, numbers)]
        shape = behind.get(tuple([who for who, _ in entries]))
        found.append((letter, None if shape is None else (tuple([following for _, following in entries]), shape)))
    return found


def first_node(many, rows):
    """Return the node of so many runs behind the first piece."""
    return ((0,) * many, first_shape(many, rows))


def first_seeds(many, rows):
    """Return the seeds of a walk that begins behind the first piece."""
    return [[], [(first_node(many, rows), None)]]


def type_of(node):
    """Return the type that is this node."""
    states, shape = node
    return (states, *shape)


def node_of(start):
    """Return the node that is this type."""
    states, *shape = start
    return (states, tuple(shape))


def fresh_seeds(seeds, pieces, came):
    """Return a dict from the nodes that are seeds behind so many pieces, and did not come yet, to their origins."""
    fresh = {}
    if pieces < len(seeds):
        for node, origin in seeds[pieces]:
            if node not in came and node not in fresh:
                fresh[node] = origin
    return fresh


def walk(tables, seeds, rows):
    """Return (came, fall): how each node came about, and the first moment at which the runs read unlike values.

    came is a dict from nodes to (node ahead, letter), of a seed (None, origin). fall is such a pair, too, or None if
    the runs never read unlike values; only then came is whole.
    """
    came = {}
    moves = {}
    layer = []
    pieces = 0
    while layer or pieces < len(seeds):
        behind = []
        fresh = fresh_seeds(seeds, pieces, came)
        for node in fresh:
            if node is None:
                return came, (None, fresh[node])
            came[node] = (None, fresh[node])
        for node in [*layer, *fresh]:
            states, shape = node
            if shape not in moves:
                moves[shape] = moves_from(shape, rows)
            for letter, follower in followers_of(tables, states, moves[shape]):
                if follower is None:
                    return came, (node, letter)
                if follower not in came:
                    came[follower] = (node, letter)
                    behind.append(follower)
        layer = behind
        pieces = pieces + 1
    return came, None


def steps_to(came, last):
    """Return (origin, steps): the origin of the seed, and the list of (node ahead, letter) up to the last such pair."""
    steps = []
    ahead, letter = last
    while ahead is not None:
        steps.append((ahead, letter))
        ahead, letter = came[ahead]
    return letter, steps[::-1]


def types_in(came):
    """Return the ascending tuple of the types of some nodes."""
    return tuple(sorted([type_of(node) for node in came]))


def is_ascending(items):
    """Return whether each item, all of them being of one form, is greater than the one before it."""
    return all([one < other for one, other in zip(items, items[1:])])


def are_types(tables, value, rows):
    """Return whether any value is an ascending tuple of types of these runs."""
    if not isinstance(value, tuple) or not all([is_type(tables, item, rows=rows) for item in value]):
        return False
    return is_ascending(value)


def is_closed(tables, nodes, rows):
    """Return whether the nodes, the keys of a dict, are a closed set."""
    moves = {}
    for states, shape in nodes:
        if shape not in moves:
            moves[shape] = moves_from(shape, rows)
        for _, follower in followers_of(tables, states, moves[shape]):
            if follower is None or follower not in nodes:
                return False
    return first_node(len(tables), rows) in nodes


def is_closed_paper(tables, value, rows):
    """Return whether any value is a closed set as an ascending tuple of types."""
    return are_types(tables, value, rows) and is_closed(tables, {node_of(item): True for item in value}, rows)
