"""States that are alike, and tables with as few states as can be."""

from fragweave.graphs import fewest_steps
from fragweave.types import first_shape
from fragweave.walks import followers_of, moves_from


def numbered_table(start, states):
    """Return the table of the states that come of one state, numbered as they are found from it on.

    states is a dict from each state to its entries, whose next states are keys of it, too.
    """
    numbers = {start: 0}
    found = [start]
    looked = 0
    while looked < len(found):
        here = found[looked]
        for _, following in states[here]:
            if following not in numbers:
                numbers[following] = len(found)
                found.append(following)
        looked += 1
    return tuple([tuple([(who, numbers[following]) for who, following in states[state]]) for state in found])


def states_about(table):
    """Return the ascending list of the states of a table that come about."""
    found = {0: True}
    left = [0]
    while left:
        state = left.pop()
        for _, following in table[state]:
            if following not in found:
                found[following] = True
                left.append(following)
    return sorted(found)


def pair_node(state, other):
    """Return the node of two runs in these states that have the same owner."""
    return ((state, other), first_shape(2, "all"))


def graph_from(tables, starts):
    """Return a dict from each node that comes of some nodes to the list of what follows.

    None follows where the runs read unlike values.
    """
    follows = {}
    moves = {}
    left = list(starts)
    while left:
        node = left.pop()
        if node is None or node in follows:
            continue
        states, shape = node
        if shape not in moves:
            moves[shape] = moves_from(shape, "all")
        found = {follower: True for _, follower in followers_of(tables, states, moves[shape])}
        follows[node] = list(found)
        left.extend(follows[node])
    return follows


def alike_states(table):
    """Return the states that come about in groups of alike ones."""
    states = states_about(table)
    starts = [pair_node(state, other) for state in states for other in states if state < other]
    unlike = fewest_steps(graph_from((table, table), starts), [None])
    groups = {}
    for state in states:
        alike = [other for other in groups if pair_node(other, state) not in unlike]
        groups.setdefault(alike[0] if alike else state, []).append(state)
    return tuple([tuple(groups[least]) for least in groups])


def trimmed(table):
    """Return the table that has just the states that come about."""
    return numbered_table(0, {state: entries for state, entries in enumerate(table)})


def merged(table):
    """Return the table with one state for each group of alike states that come about."""
    leasts = {state: group[0] for group in alike_states(table) for state in group}
    states = {least: [(who, leasts[following]) for who, following in table[least]]
              for state, least in leasts.items() if state == least}
    return numbered_table(0, states)
