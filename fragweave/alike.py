"""Tables and readers that read all rows alike."""

from fragweave.classes import CLASSES, check_rows, is_in
from fragweave.integers import is_place
from fragweave.layouts import Layout, lay_steps
from fragweave.pieces import is_row
from fragweave.places import value_read
from fragweave.tables import first_table
from fragweave.walks import first_seeds, is_closed_paper, steps_to, types_in, walk
from fragweave.whens import unlike_whens_row

# Two rows of two pieces with unlike ends, both whole behind the second piece alone.
SHRINKING = ((1, (0,), True), (0, (0,), True))
GROWING = ((1, (0,), True), (0, (0, 0, 0), True))
# What the marks make of the two ends: the number of the piece whose end counts.
SHRINKING_ENDS = {"first": 0, "last": 1, "least": 1, "greatest": 0}
# Rows of two pieces of which the first one alone is whole, and another end counts behind both.
WHEN_ROWS = {
    "last": ((0, (0,), True), (0, (0, 0), True)),
    "least": ((0, (0, 0), True), (0, (0,), True)),
    "greatest": ((0, (0,), True), (0, (0, 0), True)),
}


def are_alike(one, other, *, rows="all"):
    """Return whether two tables are alike for a class of rows."""
    check_rows(rows, CLASSES)
    _, fall = walk((one, other), first_seeds(2, rows), rows)
    return fall is None


def find_alike(one, other, *, rows="all"):
    """Return an alike paper of two tables, with the fewest types or the fewest pieces."""
    check_rows(rows, CLASSES)
    tables = (one, other)
    came, fall = walk(tables, first_seeds(2, rows), rows)
    if fall is None:
        return ("alike", types_in(came))
    _, steps = steps_to(came, fall)
    layout = Layout(rows)
    lay_steps(layout, tables, [layout.lay_first()] * 2, steps)
    return ("unlike", layout.laid_row(len(steps)), layout.common_place())


def alike_holds(one, other, value, *, rows="all"):
    """Return whether any value is an alike paper of two tables."""
    check_rows(rows, CLASSES)
    if not isinstance(value, tuple) or len(value) not in (2, 3):
        return False
    if len(value) == 2:
        return value[0] == "alike" and is_closed_paper((one, other), value[1], rows)
    word, row, place = value
    if word != "unlike" or not is_row(row) or not is_place(place) or not is_in(row, rows):
        return False
    return value_read(one, row, place) != value_read(other, row, place)


def reads_first(reader):
    """Return whether the table of a reader is alike to the table "first"."""
    return are_alike(reader.table, first_table())


def read_alike(reader, other):
    """Return whether two readers read all rows alike."""
    if reader.mark != other.mark:
        return False
    if reader.when == other.when:
        return are_alike(reader.table, other.table)
    return reader.mark == "first" and reads_first(reader) and reads_first(other)


def unlike_tables_row(reader, other):
    """Return a row of the fewest pieces which the tables of two readers read unlike, None if they are alike."""
    paper = find_alike(reader.table, other.table)
    return paper[1] if paper[0] == "unlike" else None


def unlike_moments_row(reader, other):
    """Return a row of the fewest pieces that a late reader and an early one read unlike, both with the mark "first"."""
    late = reader if reader.when == "late" else other
    found = [unlike_tables_row(reader, other), unlike_whens_row(late.table)]
    return min([row for row in found if row is not None], key=len)


def unlike_row(reader, other):
    """Return a row of the fewest pieces that two readers read unlike, None if they read all rows alike."""
    if read_alike(reader, other):
        return None
    if reader.mark != other.mark:
        return GROWING if SHRINKING_ENDS[reader.mark] == SHRINKING_ENDS[other.mark] else SHRINKING
    if reader.when == other.when:
        return unlike_tables_row(reader, other)
    return unlike_moments_row(reader, other) if reader.mark == "first" else WHEN_ROWS[reader.mark]
