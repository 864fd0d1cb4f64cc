"""States from which on the value that is read never changes any more.

What can come behind a state depends on its entries alone: over the place, a piece with each begin, end and value to
those of the owner can come.
"""

from fragweave.graphs import fewest_steps
from fragweave.places import steps_at
from fragweave.tables import is_change

# Stands in the place of a state where the value has changed.
CHANGED = "changed"


def followers_in(entries):
    """Return the list of what follows a state with these entries: CHANGED, or the next state."""
    return [CHANGED if is_change(entry, number) else entry[1] for number, entry in enumerate(entries)]


def distances(table):
    """Return the fewest further pieces that change the value that is read, for each state; None if none do."""
    follows = {state: followers_in(entries) for state, entries in enumerate(table)}
    steps = fewest_steps(follows, [CHANGED])
    return tuple([steps.get(state) for state in range(len(table))])


def settled(table):
    """Return the ascending tuple of the settled states."""
    return tuple([state for state, distance in enumerate(distances(table)) if distance is None])


def sure_at(table, row, place):
    """Return the fewest pieces of a row behind which the state at a place is settled, None if it never is."""
    states = settled(table)
    for number, _, state in steps_at(table, row, place):
        if state in states:
            return number + 1
    return None
