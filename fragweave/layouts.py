"""Rows that are built from how their pieces lie to one another over one place."""

from fragweave.tables import entry_number
from fragweave.types import lies_of


def slot_at(order, marks, place):
    """Return the slot at a place among the marks, some slots of the order; a slot that is missing is put in.

    The order is the list of all slots, ascending. Between two marks the topmost slot is taken: above all marks a
    piece then begins, or ends, where the class of the row wants it, ahead of no other piece.
    """
    heights = sorted({order.index(mark) for mark in marks})
    rank, equal = divmod(place, 2)
    if equal == 1:
        return order[heights[rank]]
    below = heights[rank - 1] if rank > 0 else -1
    above = heights[rank] if rank < len(heights) else len(order)
    if above - below > 1:
        return order[above - 1]
    slot = len(order)
    order.insert(above, slot)
    return slot


class Layout:
    """Pieces over one place, each with the slots of its begin, of its end and of its value.

    A slot is a number; what matters is its height in the list of all slots of its kind. In the classes "nested" and
    "stairs" the end follows from the begin, so both have the same slot.
    """

    def __init__(self, rows="all"):
        self._rows = rows
        self._begins = []
        self._ends = []
        self._worths = []
        self._laid = []

    def worth_at(self, marks, place):
        """Return the slot of a value at a place among the slots of some values."""
        return slot_at(self._worths, marks, place)

    def worth_of(self, number):
        """Return the slot of the value of a piece."""
        return self._laid[number][2]

    def lay_between(self, begin_marks, begin, end_marks, end, worth):
        """Add a piece, its begin and its end at places among those of some pieces, and return its number."""
        begin_slot = slot_at(self._begins, [self._laid[mark][0] for mark in begin_marks], begin)
        end_slot = begin_slot
        if self._rows not in ("nested", "stairs"):
            end_slot = slot_at(self._ends, [self._laid[mark][1] for mark in end_marks], end)
        self._laid.append((begin_slot, end_slot, worth))
        return len(self._laid) - 1

    def lay(self, marks, spot, worth):
        """Add a piece at a spot among some pieces, given by their numbers, and return its number."""
        return self.lay_between(marks, spot[0], marks, spot[1], worth)

    def lay_letter(self, marks, letter):
        """Add a piece with a letter among some pieces, and return its number."""
        worth = self.worth_at([self.worth_of(mark) for mark in marks], letter[2])
        return self.lay(marks, letter, worth)

    def lay_first(self):
        """Add the first piece, and return its number."""
        return self.lay_letter([], (0, 0, 0))

    def pieces_laid(self):
        """Return how many pieces there are."""
        return len(self._laid)

    def common_place(self):
        """Return the place that all pieces cover."""
        return len(self._begins) - 1

    def value_of(self, worth):
        """Return the value of a slot."""
        return self._worths.index(worth)

    def end_height(self, slot):
        """Return the height of the slot of an end."""
        if self._rows == "nested":
            return len(self._begins) - 1 - self._begins.index(slot)
        return self._begins.index(slot) if self._rows == "stairs" else self._ends.index(slot)

    def laid_row(self, last):
        """Return the row of all pieces, in which just the piece with the number last has last.

        The pieces have their value at all their places, so that no place is left out.
        """
        row = []
        for number, (begin, end, worth) in enumerate(self._laid):
            start = self._begins.index(begin)
            stop = self.common_place() + 1 + self.end_height(end)
            row.append((start, (self.value_of(worth),) * (stop - start), number == last))
        return tuple(row)


def lay_steps(layout, tables, owners, steps):
    """Add the pieces of a walk behind owners, the numbers of the pieces that the runs own.

    A step is a pair (node, letter) of the runs of these tables ahead of the piece.
    """
    for (states, shape), letter in steps:
        number = layout.lay_letter(owners, letter)
        *spot, value = letter
        asked = [entry_number(*lie, value) for lie in lies_of(spot, shape)]
        entries = [table[state][at] for table, state, at in zip(tables, states, asked)]
        owners = [number if who == "new" else owner for (who, _), owner in zip(entries, owners)]
    return owners
