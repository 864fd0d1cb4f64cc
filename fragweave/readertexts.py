"""The texts of tables."""

from fragweave.bounds import STATES
from fragweave.errors import BadText
from fragweave.tables import table_error

# A state has 27 entries of two signs each; behind it, one sign stands ahead of the next state.
STATE_SIGNS = 54
NEXT_STATE = 55
WHO = {"o": "old", "n": "new"}


def entry_text(entry):
    """Return the text of an entry."""
    who, following = entry
    return f"{who[0]}{following}"


def table_text(table):
    """Return the text of a table."""
    return "/".join(["".join([entry_text(entry) for entry in state]) for state in table])


def signs_at(number):
    """Return the signs that the text of a table may have at a place, "" behind the longest one."""
    if number >= STATES * NEXT_STATE - 1:
        return ""
    at = number % NEXT_STATE
    if at == STATE_SIGNS:
        return "/"
    return "on" if at % 2 == 0 else "012345"


def state_read(word):
    """Return the state with this text."""
    return tuple([(WHO[word[at]], int(word[at + 1])) for at in range(0, STATE_SIGNS, 2)])


def parse_table(value):
    """Return the table with this text."""
    if not isinstance(value, str):
        raise BadText(None)
    for number, sign in enumerate(value):
        if sign not in signs_at(number):
            raise BadText(number)
    if len(value) % NEXT_STATE != STATE_SIGNS:
        raise BadText(len(value))
    table = tuple([state_read(word) for word in value.split("/")])
    if table_error(table) is not None:
        raise BadText(len(value))
    return table
