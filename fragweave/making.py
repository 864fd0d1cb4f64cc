"""Tables, and rows, that are made of others."""

from fragweave.bounds import PIECES, STATES
from fragweave.errors import BadCount, BadWord, TooMany
from fragweave.integers import is_within
from fragweave.merging import numbered_table
from fragweave.pieces import end_of
from fragweave.tables import entry_number

SIDES = ("begins", "ends", "values")


def mirrored_state(entries):
    """Return the state of a mirror."""
    return tuple([entries[entry_number(2 - end, 2 - begin, value)]
                  for begin in range(3) for end in range(3) for value in range(3)])


def mirrored(table):
    """Return the mirror of a table."""
    return tuple([mirrored_state(entries) for entries in table])


def mirrored_row(row, number):
    """Return the mirror of a row at a number, which no piece ends behind."""
    return tuple([(number - end_of(piece), piece[1][::-1], False) for piece in row])


def renumbered(table, order):
    """Return the table whose state k is the state order[k]."""
    numbers = {state: number for number, state in enumerate(order)}
    return tuple([tuple([(who, numbers[following]) for who, following in table[state]]) for state in order])


def then_states(table, count, other):
    """Return a dict from (k, state) to entries, the next states of which are such pairs.

    As long as k is less than count, k pieces have come and the table is asked; with k = count it is the other one.
    """
    states = {(count, state): [(who, (count, following)) for who, following in entries]
              for state, entries in enumerate(other)}
    for come in range(1, count):
        for state, entries in enumerate(table):
            states[(come, state)] = [(who, (come + 1, 0 if come + 1 == count else following))
                                     for who, following in entries]
    return states


def then_table(table, count, other):
    """Return a table that reads as a table as long as at most so many pieces have come, then by the other one."""
    if not is_within(count, 1, PIECES):
        raise BadCount(count)
    # There is a state at least for each number of pieces up to count, so these need not be looked at.
    if count > STATES:
        raise TooMany(STATES)
    made = numbered_table((1, 0), then_states(table, count, other))
    if len(made) > STATES:
        raise TooMany(STATES)
    return made


def blind_state(entries, blind):
    """Return a state that is blind to what a list of bools tells: to begins, ends and values."""
    begins, ends, values = blind
    return tuple([entries[entry_number(1 if begins else begin, 1 if ends else end, 0 if values else value)]
                  for begin in range(3) for end in range(3) for value in range(3)])


def blinded(table, *words):
    """Return the table that is blind to what the words tell."""
    for word in words:
        if word not in SIDES:
            raise BadWord(word)
    blind = [side in words for side in SIDES]
    return tuple([blind_state(entries, blind) for entries in table])
