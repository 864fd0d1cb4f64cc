"""Tidy papers: whether places can be left out of pieces so that other tables read what one table reads.

The runs are those of the table and of the others. At each letter two choices lead on, "pass" and "leave"; behind
"leave" the first run alone has gone on.
"""

from fragweave.errors import TooMany
from fragweave.integers import is_integer, is_place
from fragweave.types import is_type, letters_of
from fragweave.walks import first_node, is_ascending, moves_from, node_of, type_of

# Two others are served only as long as the three tables have no more states than this, multiplied.
MOST_STATES = 8
CHOICES = ("pass", "leave")
# What is behind both choices where each one fails.
FAILURE = (None, None)


def check_states(tables):
    """Raise TooMany if three tables have too many states."""
    states = 1
    for table in tables:
        states = states * len(table)
    if len(tables) == 3 and states > MOST_STATES:
        raise TooMany(MOST_STATES)


def moves_at(moves, node):
    """Return what moves_from returns for the shape of a node; moves keeps it for each shape that is asked."""
    shape = node[1]
    if shape not in moves:
        moves[shape] = moves_from(shape, "all")
    return moves[shape]


def behind_choices(tables, node, move):
    """Return the nodes behind "pass" and behind "leave" for a move of moves_from, None for a choice that fails."""
    states, _ = node
    _, numbers, behind = move
    entries = [table[state][number] for table, state, number in zip(tables, states, numbers)]
    words = [who for who, _ in entries]
    passed = behind.get(tuple(words))
    # That the others do not take the piece is as if they stayed with the old one.
    left = behind.get((words[0], *["old"] * (len(words) - 1)))
    return (None if passed is None else (tuple([following for _, following in entries]), passed),
            None if left is None else ((entries[0][1], *states[1:]), left))


def explored(tables):
    """Return (nodes, pairs): the nodes that choices lead to, unless all choices have failed, and where these lead.

    For each node pairs has a list with, for each letter, the list of the numbers of the nodes behind "pass" and
    "leave", None for one that fails.
    """
    nodes = [first_node(len(tables), "all")]
    numbers = {nodes[0]: 0}
    moves = {}
    pairs = []
    while len(pairs) < len(nodes):
        node = nodes[len(pairs)]
        choices = [behind_choices(tables, node, move) for move in moves_at(moves, node)]
        if FAILURE in choices:
            # Every tidier fails here at once, so that it does not matter what follows.
            choices = [pair if pair == FAILURE else (node, node) for pair in choices]
        found = []
        for pair in choices:
            for follower in pair:
                if follower is not None and follower not in numbers:
                    numbers[follower] = len(nodes)
                    nodes.append(follower)
            found.append([None if follower is None else numbers[follower] for follower in pair])
        pairs.append(found)
    return nodes, pairs


def nodes_ahead(pairs):
    """Return a list with, for each node, the list of (number, at) of the nodes ahead of it and their letters."""
    ahead = [[] for _ in pairs]
    for number, found in enumerate(pairs):
        for at, pair in enumerate(found):
            for follower in pair:
                if follower is not None:
                    ahead[follower].append((number, at))
    return ahead


def lost_nodes(pairs):
    """Return a dict from the number of each node where every tidier fails at last to (rank, at), a letter there.

    Each choice at this letter fails, or leads to a node with a lesser rank.
    """
    ahead = nodes_ahead(pairs)
    alive = [[len([follower for follower in pair if follower is not None]) for pair in found] for found in pairs]
    lost = {number: (0, alive[number].index(0)) for number in range(len(pairs)) if 0 in alive[number]}
    layer = list(lost)
    rank = 0
    while layer:
        rank += 1
        behind = []
        for node in layer:
            for number, at in ahead[node]:
                alive[number][at] -= 1
                if alive[number][at] == 0 and number not in lost:
                    lost[number] = (rank, at)
                    behind.append(number)
        layer = behind
    return lost


def reached_by(chosen):
    """Return the ascending list of the numbers of nodes that are reached from the first one.

    chosen is a list with, for each node, the list of the numbers of the nodes that follow.
    """
    reached = {0: True}
    left = [0]
    while left:
        number = left.pop()
        for follower in chosen[number]:
            if follower not in reached:
                reached[follower] = True
                left.append(follower)
    return sorted(reached)


def fails_paper(nodes, pairs, lost):
    """Return the tidy paper that every tidier fails."""
    chosen = [[follower for follower in found[lost[number][1]] if follower is not None] if number in lost else []
              for number, found in enumerate(pairs)]
    rows = []
    for number in reached_by(chosen):
        rank, at = lost[number]
        start = type_of(nodes[number])
        rows.append((start, rank, letters_of(start)[at]))
    return ("fails", tuple(sorted(rows)))


def serving_choice(pair, lost):
    """Return the number of the first choice that serves, of a pair of which one does."""
    return 0 if pair[0] is not None and pair[0] not in lost else 1


def serves_paper(nodes, pairs, lost):
    """Return the tidy paper that some tidier serves the tables."""
    choices = [[serving_choice(pair, lost) for pair in found] for found in pairs]
    chosen = [[pair[choice] for pair, choice in zip(found, some)] for found, some in zip(pairs, choices)]
    rows = [(type_of(nodes[number]), tuple([CHOICES[choice] for choice in choices[number]]))
            for number in reached_by(chosen)]
    return ("serves", tuple(sorted(rows)))


def find_tidy(table, *others):
    """Return a tidy paper of a table and one or two others."""
    tables = (table, *others)
    check_states(tables)
    nodes, pairs = explored(tables)
    lost = lost_nodes(pairs)
    return fails_paper(nodes, pairs, lost) if 0 in lost else serves_paper(nodes, pairs, lost)


def are_rows(tables, value, size):
    """Return whether any value is an ascending tuple of tuples of this size, with the first type and unlike types."""
    if not isinstance(value, tuple):
        return False
    if not all([isinstance(row, tuple) and len(row) == size and is_type(tables, row[0]) for row in value]):
        return False
    types = [row[0] for row in value]
    return is_ascending(types) and type_of(first_node(len(tables), "all")) in types


def are_choices(value):
    """Return whether any value is a tuple of choices."""
    return isinstance(value, tuple) and all([choice in CHOICES for choice in value])


def serves_holds(tables, rows):
    """Return whether any value is the rows of a paper with the word "serves"."""
    if not are_rows(tables, rows, 2) or not all([are_choices(choices) for _, choices in rows]):
        return False
    known = {node_of(start): True for start, _ in rows}
    moves = {}
    for start, choices in rows:
        node = node_of(start)
        possible = moves_at(moves, node)
        if len(choices) != len(possible):
            return False
        for move, choice in zip(possible, choices):
            if behind_choices(tables, node, move)[CHOICES.index(choice)] not in known:
                return False
    return True


def is_letter(value):
    """Return whether any value is a tuple of three integers."""
    return isinstance(value, tuple) and len(value) == 3 and all([is_integer(number) for number in value])


def fails_holds(tables, rows):
    """Return whether any value is the rows of a paper with the word "fails"."""
    if not are_rows(tables, rows, 3):
        return False
    if not all([is_place(rank) and is_letter(letter) for _, rank, letter in rows]):
        return False
    ranks = {node_of(start): rank for start, rank, _ in rows}
    moves = {}
    for start, rank, letter in rows:
        node = node_of(start)
        asked = [move for move in moves_at(moves, node) if move[0] == letter]
        if not asked:
            return False
        for follower in behind_choices(tables, node, asked[0]):
            if follower is not None and (follower not in ranks or ranks[follower] >= rank):
                return False
    return True


def tidy_holds(table, others, value):
    """Return whether any value is a tidy paper of a table and the tuple of one or two others."""
    tables = (table, *others)
    check_states(tables)
    if not isinstance(value, tuple) or len(value) != 2:
        return False
    if value[0] == "serves":
        return serves_holds(tables, value[1])
    return value[0] == "fails" and fails_holds(tables, value[1])
