"""Which of some tables it is: rows that tell them apart."""

from fragweave.alike import are_alike, find_alike
from fragweave.integers import is_place, is_within
from fragweave.pieces import greatest_end, is_row
from fragweave.places import value_read
from fragweave.reading import many_holds


def groups_of(tables):
    """Return the numbers of tables in groups of alike ones."""
    groups = {}
    for number, table in enumerate(tables):
        alike = [other for other in groups if are_alike(tables[other], table)]
        groups.setdefault(alike[0] if alike else number, []).append(number)
    return tuple([tuple(groups[least]) for least in groups])


def values_over(table, row):
    """Return the tuple of what a table reads at the places below the greatest end of a row, None where nothing is."""
    holds = many_holds(table, row, [None] * greatest_end(row))
    return tuple([None if hold is None else hold[2] for hold in holds])


def apart_by(tables, row):
    """Return the numbers of tables in groups of those that a row does not tell apart."""
    groups = {}
    for number, table in enumerate(tables):
        groups.setdefault(values_over(table, row), []).append(number)
    return tuple([tuple(groups[values]) for values in groups])


def unlike_pairs(tables):
    """Return the ascending list of the pairs of numbers of tables that are not alike."""
    least = {number: group[0] for group in groups_of(tables) for number in group}
    return [(number, other) for number in range(len(tables)) for other in range(number + 1, len(tables))
            if least[number] != least[other]]


def row_behind(row, other):
    """Return two rows as one, the second one beside the first one, its pieces without last."""
    start = greatest_end(row)
    return (*row, *[(begin + start, values, False) for begin, values, _ in other])


def first_unlike(values, other):
    """Return the first place at which two tuples of values that are as long are unlike, None if there is none."""
    for place, (one, another) in enumerate(zip(values, other)):
        if one != another:
            return place
    return None


def find_packet(tables):
    """Return a packet paper of tables."""
    pairs = unlike_pairs(tables)
    row = ()
    for number, other in pairs:
        # What is told apart beside another two needs no pieces of its own.
        if values_over(tables[number], row) == values_over(tables[other], row):
            row = row_behind(row, find_alike(tables[number], tables[other])[1])
    values = [values_over(table, row) for table in tables]
    return (row, tuple([(number, other, first_unlike(values[number], values[other])) for number, other in pairs]))


def is_test(tables, row, value):
    """Return whether any value is (number, other, place) of two tables that a row tells apart at this place."""
    if not isinstance(value, tuple) or len(value) != 3:
        return False
    number, other, place = value
    most = len(tables) - 1
    if not is_within(number, 0, most) or not is_within(other, number + 1, most) or not is_place(place):
        return False
    return value_read(tables[number], row, place) != value_read(tables[other], row, place)


def packet_holds(tables, value):
    """Return whether any value is a packet paper of tables."""
    if not isinstance(value, tuple) or len(value) != 2:
        return False
    row, tests = value
    if not is_row(row) or not isinstance(tests, tuple) or not all([is_test(tables, row, test) for test in tests]):
        return False
    return [(number, other) for number, other, _ in tests] == unlike_pairs(tables)
