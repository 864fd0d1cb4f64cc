"""Promise 8: the five classes of rows."""

import random
import unittest
from copy import deepcopy

from fragweave.classes import is_in
from fragweave.errors import BadRows
from fragweave.tables import told_table
from tests.helpers import CLASSES, ROW, any_values, plain_value, random_row


def meet(one, other):
    """Whether two pieces have a place that both cover."""
    return any(
        plain_value(one, place) is not None and plain_value(other, place) is not None for place in range(one[0] + len(one[1])))


def plain_is_in(row, rows):
    """is_in after the document's words, over every two pieces."""
    spans = [(piece[0], piece[0] + len(piece[1])) for piece in row]
    for later in range(len(row)):
        for earlier in range(later):
            (begin, end), (other_begin, other_end) = spans[earlier], spans[later]
            if rows == "begins" and other_begin < begin or rows == "ends" and other_end < end:
                return False
            if rows not in ("nested", "stairs") or not meet(row[earlier], row[later]) or spans[earlier] == spans[later]:
                continue
            if rows == "nested" and not (begin < other_begin and end > other_end or begin > other_begin and end < other_end):
                return False
            if rows == "stairs" and not (begin < other_begin and end < other_end or begin > other_begin and end > other_end):
                return False
    return True


def piece_from(begin, end):
    """A piece that covers all places from begin to end."""
    return (begin, (5,) * (end - begin), False)


class IsIn(unittest.TestCase):
    def check(self, row, inside):
        self.assertEqual([is_in(row, rows) for rows in CLASSES], [rows in inside for rows in CLASSES], row)

    def test_short_rows(self):
        self.check((), CLASSES)
        for piece in ROW:
            self.check((piece,), CLASSES)
            self.check((piece, piece), CLASSES)

    def test_two_pieces(self):
        both = ("all", "begins", "ends")
        for one, other, inside in (
                ((0, 4), (1, 3), ("all", "nested", "begins")), ((1, 3), (0, 4), ("all", "nested", "ends")),
                ((0, 3), (1, 4), ("all", "stairs", "begins", "ends")), ((1, 4), (0, 3), ("all", "stairs")),
                ((0, 3), (0, 4), both), ((0, 4), (0, 3), ("all", "begins")), ((0, 3), (1, 3), both),
                ((1, 3), (0, 3), ("all", "ends")), ((0, 2), (2, 4), CLASSES), ((2, 4), (0, 2), ("all", "nested", "stairs"))):
            self.check((piece_from(*one), piece_from(*other)), inside)

    def test_pieces_that_meet_at_no_place(self):
        self.check(((0, (5, None), False), (0, (None, 6, 6), False)), CLASSES)
        self.check(((0, (5, None), False), (0, (None, 6), False), (0, (None, 7, None), False)), ("all", "begins", "ends"))
        self.check(((1, (None,), False), (0, (5, 6), True)), ("all", "nested", "stairs", "ends"))

    def test_pieces_that_cover_nothing_count_in_begins_and_ends(self):
        self.check(((3, (None,), False), (0, (5,), True)), ("all", "nested", "stairs"))

    def test_any_two_pieces_count(self):
        self.check((piece_from(0, 9), piece_from(1, 8), piece_from(2, 8)), ("all", "begins"))
        self.check((piece_from(2, 5), piece_from(0, 9), piece_from(1, 5)), ("all",))
        self.check((piece_from(0, 3), piece_from(2, 6), piece_from(1, 3)), ("all",))
        self.check((piece_from(0, 3), piece_from(5, 6), piece_from(1, 8)), ("all", "ends"))
        self.check((piece_from(0, 3), piece_from(3, 6), piece_from(2, 4)), ("all", "stairs"))

    def test_after_the_words_of_the_document(self):
        source = random.Random(26)
        found = {rows: [0, 0] for rows in CLASSES}
        for _ in range(3000):
            row = random_row(source, most=4)
            for rows in CLASSES:
                inside = plain_is_in(row, rows)
                found[rows][inside] += 1
                self.assertIs(is_in(row, rows), inside, (row, rows))
        self.assertTrue(all(min(counts) > 100 for rows, counts in found.items() if rows != "all"), found)

    def test_long_rows(self):
        nested = tuple(piece_from(k, 100 - k) for k in range(50)) * 40
        self.check(nested, ("all", "nested"))
        stairs = tuple(piece_from(k // 4, 40 + k // 4) for k in range(2000))
        self.check(stairs, ("all", "stairs", "begins", "ends"))

    def test_any_value(self):
        others = ("All", "nest", "nested ", "begin", "end", "first", told_table("last"), ("all",), ["all"], {"all": 1})
        for value in (*any_values(), *others):
            for row in ((), ROW):
                with self.assertRaises(BadRows) as caught:
                    is_in(row, value)
                self.assertIs(caught.exception.rows, value)

    def test_arguments_are_not_changed(self):
        row = deepcopy(ROW)
        for rows in CLASSES:
            self.assertIs(is_in(row, rows), is_in(row, rows))
        self.assertEqual(row, ROW)


if __name__ == "__main__":
    unittest.main()
