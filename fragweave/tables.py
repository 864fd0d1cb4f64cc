"""Tables: which of two pieces over a place is read there."""

from fragweave.bounds import STATES
from fragweave.errors import NoTable
from fragweave.integers import is_within

SIGNS = ("<", "=", ">")
# The number of each sign, looked up here since an operator may not search for it.
LIES = {"<": 0, "=": 1, ">": 2}
ENTRIES = 27


def is_entry(value, states):
    """Return whether any value is an entry of a table with so many states."""
    if not isinstance(value, tuple) or len(value) != 2:
        return False
    who, following = value
    return who in ("old", "new") and is_within(following, 0, states - 1)


def state_error(value, state, states):
    """Return what table_error says of any value in the place of a state, None if it is one."""
    if not isinstance(value, tuple) or len(value) != ENTRIES:
        return (state, None, "state")
    for number, entry in enumerate(value):
        if not is_entry(entry, states):
            return (state, number, "entry")
    return None


def table_error(value):
    """Return None if any value is a table, otherwise where and what its first error is."""
    if not isinstance(value, tuple) or not 1 <= len(value) <= STATES:
        return (None, None, "table")
    for state, entries in enumerate(value):
        error = state_error(entries, state, len(value))
        if error is not None:
            return error
    return None


def entry_number(begin, end, value):
    """Return the number of an entry; each argument is 0 for "<", 1 for "=", 2 for ">"."""
    return 9 * begin + 3 * end + value


def turned_number(number):
    """Return the number of the entry for the contrary of each sign."""
    return ENTRIES - 1 - number


def is_change(entry, number):
    """Return whether an entry with this number lets another value be read than before."""
    return entry[0] == "new" and number % 3 != 1


def entry_of(table, state, begin, end, value):
    """Return the entry of a state for three signs."""
    return table[state][entry_number(LIES[begin], LIES[end], LIES[value])]


def takes_never(begin, end, value):
    """The rule of "first"."""
    return False


def takes_always(begin, end, value):
    """The rule of "last"."""
    return True


def takes_begins(begin, end, value):
    """The rule of "begins"."""
    return begin == "<"


def takes_ends(begin, end, value):
    """The rule of "ends"."""
    return end == ">"


def takes_cover(begin, end, value):
    """The rule of "cover"."""
    return begin != ">" and end != "<" and (begin, end) != ("=", "=")


def takes_inner(begin, end, value):
    """The rule of "inner"."""
    return begin != "<" and end != ">" and (begin, end) != ("=", "=")


def takes_least(begin, end, value):
    """The rule of "least"."""
    return value == "<"


def takes_ranked(begin, end, value):
    """The rule of "ranked"."""
    if begin == "=" and end == "=":
        return value == "<"
    return begin == "<" or (begin == "=" and end == ">")


RULES = {
    "first": takes_never,
    "last": takes_always,
    "begins": takes_begins,
    "ends": takes_ends,
    "cover": takes_cover,
    "inner": takes_inner,
    "least": takes_least,
    "ranked": takes_ranked,
}


def one_state(rule):
    """Return the table with one state that takes the new piece where the rule says so."""
    takes = [rule(begin, end, value) for begin in SIGNS for end in SIGNS for value in SIGNS]
    return (tuple([("new" if new else "old", 0) for new in takes]),)


def state_by_value(equal, other):
    """Return the state with one entry where the value is "=", and another one where it is not."""
    return (other, equal, other) * 9


def first_table():
    """Return the table "first", without a call of its rule: the equality of readers may call no rule."""
    return ((("old", 0),) * ENTRIES,)


def vote_table():
    """Return the table "vote"."""
    return (state_by_value(("old", 0), ("old", 1)), state_by_value(("old", 0), ("new", 0)))


def most_table():
    """Return the table "most"."""
    return (
        state_by_value(("old", 1), ("old", 2)),
        state_by_value(("old", 1), ("old", 1)),
        state_by_value(("old", 1), ("new", 1)),
    )


def told_table(name):
    """Return the table with this name."""
    if not isinstance(name, str):
        raise NoTable(name)
    if name == "vote":
        return vote_table()
    if name == "most":
        return most_table()
    if name not in RULES:
        raise NoTable(name)
    rule = RULES[name]
    return one_state(rule)
