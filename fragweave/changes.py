"""Change papers: how often the value that is read at a place can change.

A way is a tuple of steps (begin, end, value), as the pieces that follow lie to the owner. Each entry of a state has
such a step, and each step can come behind each state.
"""

from fragweave.integers import is_place, is_within
from fragweave.layouts import Layout, lay_steps
from fragweave.pieces import is_row, value_at
from fragweave.places import steps_at
from fragweave.tables import entry_number, is_change
from fragweave.types import first_shape


def step_of(number):
    """Return the step of the entry with this number."""
    return (number // 9, number // 3 % 3, number % 3)


def edges_from(table, state):
    """Return a list of (step, following, changes) for the entries of a state, changes being 1 or 0."""
    return [(step_of(number), entry[1], 1 if is_change(entry, number) else 0)
            for number, entry in enumerate(table[state])]


def ways_from(table, state):
    """Return a dict from each state that comes of a state to a way of fewest pieces that leads there."""
    ways = {state: ()}
    layer = [state]
    while layer:
        behind = []
        for here in layer:
            for step, following, _ in edges_from(table, here):
                if following not in ways:
                    ways[following] = (*ways[here], step)
                    behind.append(following)
        layer = behind
    return ways


def endless_ways(table):
    """Return (way, ring) with a change in the ring, None if there are none."""
    ways = ways_from(table, 0)
    for state in ways:
        for step, following, changes in edges_from(table, state):
            # Only a change is worth a look at where it leads.
            back = ways_from(table, following) if changes == 1 else {}
            if state in back:
                return ways[state], (step, *back[state])
    return None


def most_changes(table):
    """Return the greatest numbers of changes behind the states that come about, None for the others.

    No ring may have a change.
    """
    ways = ways_from(table, 0)
    numbers = [0 if state in ways else None for state in range(len(table))]
    grows = True
    while grows:
        grows = False
        for state in ways:
            most = max([numbers[following] + changes for _, following, changes in edges_from(table, state)])
            if most > numbers[state]:
                numbers[state] = most
                grows = True
    return tuple(numbers)


def way_to_change(table, numbers, state):
    """Return (way, following): the steps up to the next one of as many changes as the numbers tell."""
    ways = ways_from(table, state)
    for here in ways:
        for step, following, changes in edges_from(table, here):
            if changes == 1 and numbers[here] == numbers[state] == numbers[following] + 1:
                return (*ways[here], step), following
    return None


def most_way(table, numbers):
    """Return a way from the state 0 on with as many changes as its number tells."""
    steps = ()
    state = 0
    while numbers[state] > 0:
        way, state = way_to_change(table, numbers, state)
        steps = (*steps, *way)
    return steps


def states_along(table, way, state):
    """Return the list of the states ahead of each step of a way from a state on, and behind it."""
    states = [state]
    for step in way:
        number = entry_number(*step)
        _, following = table[states[-1]][number]
        states.append(following)
    return states


def row_along(table, way):
    """Return (row, place) with a row of the first piece and the steps of a way."""
    layout = Layout()
    shape = first_shape(1, "all")
    steps = [(((state,), shape), step) for state, step in zip(states_along(table, way, 0), way)]
    lay_steps(layout, (table,), [layout.lay_first()], steps)
    return layout.laid_row(None), layout.common_place()


def find_changes(table):
    """Return a change paper of a table."""
    endless = endless_ways(table)
    if endless is not None:
        return ("endless", *endless)
    numbers = most_changes(table)
    return ("most", numbers, *row_along(table, most_way(table, numbers)))


def changes_at(table, row, place):
    """Return how many changes there are at a place of a row."""
    values = [value_at(row[owner], place) for _, owner, _ in steps_at(table, row, place)]
    return len([value for ahead, value in zip(values, values[1:]) if value != ahead])


def are_numbers(table, value):
    """Return whether any value is the numbers of a paper with the word "most"."""
    if not isinstance(value, tuple) or len(value) != len(table) or value[0] is None:
        return False
    if not all([number is None or is_place(number) for number in value]):
        return False
    for state, number in enumerate(value):
        for _, following, changes in edges_from(table, state):
            behind = value[following]
            if number is not None and (behind is None or behind + changes > number):
                return False
    return True


def is_way(value):
    """Return whether any value is a tuple of steps."""
    if not isinstance(value, tuple):
        return False
    for step in value:
        if not isinstance(step, tuple) or len(step) != 3 or not all([is_within(lie, 0, 2) for lie in step]):
            return False
    return True


def is_endless(table, way, ring):
    """Return whether any values are the way and the ring of a paper with the word "endless"."""
    if not is_way(way) or not is_way(ring):
        return False
    states = states_along(table, ring, states_along(table, way, 0)[-1])
    numbers = [entry_number(*step) for step in ring]
    return states[0] == states[-1] and any([is_change(table[state][number], number)
                                            for state, number in zip(states, numbers)])


def changes_hold(table, value):
    """Return whether any value is a change paper of a table."""
    if not isinstance(value, tuple):
        return False
    if len(value) == 3:
        return value[0] == "endless" and is_endless(table, value[1], value[2])
    if len(value) != 4 or value[0] != "most" or not are_numbers(table, value[1]):
        return False
    _, numbers, row, place = value
    return is_row(row) and is_place(place) and changes_at(table, row, place) == numbers[0]
