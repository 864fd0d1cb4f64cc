"""Promise 6: marks, whens, the end that counts, whole rows, packets."""

import random
import unittest
from copy import deepcopy

from fragweave.errors import BadMark, BadTable, BadWhen
from fragweave.readers import Reader
from fragweave.reading import end_that_counts, is_whole, read_moment
from fragweave.tables import table_error, told_table
from tests.helpers import (MARKS, ROW, any_values, plain_end, plain_moment, plain_packet, plain_whole, random_row,
                           tables_to_try)

FIRST = told_table("first")
LAST = told_table("last")
WHENS = ("late", "early")


def last_at(*ends):
    """A row with a piece with last for each end, and one without it that reaches behind them."""
    return tuple((end - 1, (5,), True) for end in ends) + ((7, (5, 5), False),)


class EndThatCounts(unittest.TestCase):
    def check(self, row, ends):
        self.assertEqual([end_that_counts(row, mark) for mark in MARKS], ends)

    def test_no_piece_has_last(self):
        self.check((), [None] * 4)
        self.check(((0, (5,), False), (0, (5, 5), False)), [None] * 4)

    def test_one_piece_has_last(self):
        self.check(last_at(4), [4] * 4)
        self.check(((0, (5,) * 9, False), (2, (None,), True)), [3] * 4)

    def test_several_pieces_have_last(self):
        self.check(last_at(3, 5, 2, 4), [3, 4, 2, 5])
        self.check(last_at(5, 2), [5, 2, 2, 5])
        self.check(last_at(2, 5), [2, 5, 2, 5])
        self.check(last_at(4, 4), [4] * 4)
        self.check(last_at(3, 5, 2, 4) + last_at(6), [3, 6, 2, 6])

    def test_pieces_that_cover_nothing_end_as_told(self):
        self.check(((0, (None, None, None), True), (0, (5,), True)), [3, 1, 1, 3])

    def test_random_rows(self):
        source = random.Random(27)
        for _ in range(500):
            row = random_row(source)
            self.check(row, [plain_end(row, mark) for mark in MARKS])


class IsWhole(unittest.TestCase):
    def test_one_gap(self):
        row = ((0, (5, 5), False), (3, (6, 6), True))
        for mark in MARKS:
            self.assertIs(is_whole(row, mark), False)
            for number in range(5):
                self.assertIs(is_whole(row + ((number, (7,), False),), mark), number == 2)

    def test_a_place_that_is_left_out_is_a_gap(self):
        for at in range(4):
            items = tuple(None if place == at else 5 for place in range(4))
            self.assertIs(is_whole(((0, items, True),), "first"), False)
        self.assertIs(is_whole(((0, (5, 5, 5, 5), True),), "first"), True)

    def test_no_end(self):
        for mark in MARKS:
            self.assertIs(is_whole((), mark), False)
            self.assertIs(is_whole(((0, (5, 5), False),), mark), False)

    def test_gaps_behind_the_end_do_not_count(self):
        row = ((0, (5, 5), False), (3, (5, None, 5), False), (1, (5,), True))
        for mark in MARKS:
            self.assertIs(is_whole(row, mark), True)

    def test_the_mark_tells_the_end(self):
        row = ((0, (5, 5), True), (3, (5,), True), (0, (5,), True))
        self.assertEqual([is_whole(row, mark) for mark in MARKS], [True, True, True, False])
        self.assertEqual([is_whole(row[1:], mark) for mark in MARKS], [False, True, True, False])
        self.assertEqual([is_whole(row[:2], mark) for mark in MARKS], [True, False, True, False])

    def test_an_end_that_covers_nothing(self):
        self.assertIs(is_whole(((0, (None, None), True),), "first"), False)
        self.assertIs(is_whole(((0, (None, None), True), (0, (5, 6), False)), "first"), True)

    def test_random_rows(self):
        source = random.Random(28)
        found = [0, 0]
        for _ in range(1000):
            row = random_row(source, most_end=4)
            for mark in MARKS:
                whole = plain_whole(row, mark)
                found[whole] += 1
                self.assertIs(is_whole(row, mark), whole)
        self.assertGreater(min(found), 300)


class ReadMoment(unittest.TestCase):
    def test_late(self):
        self.assertEqual(read_moment(Reader(FIRST), ROW), 3)
        self.assertEqual(read_moment(Reader(FIRST), ROW + ROW), 6)
        self.assertIsNone(read_moment(Reader(FIRST), ROW[:2]))
        self.assertIsNone(read_moment(Reader(FIRST), ()))

    def test_early(self):
        reader = Reader(FIRST, when="early")
        self.assertEqual(read_moment(reader, ROW + ROW), 3)
        self.assertEqual(read_moment(reader, ROW[::-1]), 3)
        self.assertEqual(read_moment(reader, ROW[2:] + ROW[:2]), 2)
        self.assertIsNone(read_moment(reader, ROW[:2]))
        self.assertIsNone(read_moment(reader, ()))

    def test_early_rows_that_are_not_whole_any_more(self):
        row = ((0, (5,), True), (2, (6,), True))
        for mark in MARKS:
            self.assertEqual(read_moment(Reader(FIRST, mark=mark, when="early"), row), 1)
        self.assertEqual([read_moment(Reader(FIRST, mark=mark), row) for mark in MARKS], [2, None, 2, None])

    def test_an_end_that_comes_late_may_make_the_row_whole(self):
        row = ((2, (6,), True), (0, (5, 5), False), (0, (7,), True), (2, (8,), False))
        moments = [read_moment(Reader(FIRST, mark=mark, when="early"), row) for mark in MARKS]
        self.assertEqual(moments, [2, 2, 2, 2])
        moments = [read_moment(Reader(FIRST, mark=mark, when="early"), ((3, (6,), True), *row[1:])) for mark in MARKS]
        self.assertEqual(moments, [4, 3, 3, 4])

    def test_random_rows(self):
        source = random.Random(29)
        for _ in range(500):
            row = random_row(source, most_end=4)
            for mark in MARKS:
                for when in WHENS:
                    moment = read_moment(Reader(LAST, mark=mark, when=when), row)
                    self.assertEqual(moment, plain_moment(row, mark, when))


class Readers(unittest.TestCase):
    def test_packets(self):
        source = random.Random(30)
        for table in tables_to_try(31):
            for _ in range(15):
                row = random_row(source, most=9, most_end=4)
                for mark in MARKS:
                    for when in WHENS:
                        packet = Reader(table, mark=mark, when=when)(row)
                        self.assertEqual(packet, plain_packet(table, row, mark, when))

    def test_what_comes_behind_an_early_packet_changes_nothing(self):
        row = ((0, (5, 5), True), (0, (6, 6), True), (0, (7, 7, 7), True))
        self.assertEqual(Reader(LAST, when="early")(row), (5, 5))
        self.assertEqual(Reader(LAST, mark="greatest", when="early")(row), (5, 5))
        self.assertEqual(Reader(LAST, mark="greatest")(row), (7, 7, 7))
        self.assertEqual(Reader(LAST)(row), (7, 7))

    def test_what_pieces_have_behind_the_end_is_not_in_the_packet(self):
        row = ((0, (5, 6, 7, 8), False), (1, (9,), True))
        self.assertEqual(Reader(LAST)(row), (5, 9))
        self.assertEqual(Reader(FIRST)(row), (5, 6))

    def test_the_defaults_and_the_properties(self):
        reader = Reader(LAST)
        self.assertEqual((reader.table, reader.mark, reader.when), (LAST, "first", "late"))
        for mark in MARKS:
            for when in WHENS:
                reader = Reader(FIRST, mark=mark, when=when)
                self.assertEqual((reader.table, reader.mark, reader.when), (FIRST, mark, when))
        for name in ("table", "mark", "when"):
            with self.assertRaises(AttributeError):
                setattr(reader, name, FIRST)

    def test_text(self):
        self.assertEqual(str(Reader(FIRST)), "first late " + "o0" * 27)
        self.assertEqual(str(Reader(LAST, mark="greatest", when="early")), "greatest early " + "n0" * 27)

    def test_wrong_arguments(self):
        for value in any_values():
            error = table_error(value)
            if error is not None:
                with self.assertRaises(BadTable) as caught:
                    Reader(value, mark=value, when=value)
                self.assertEqual(caught.exception.error, error)
            if value not in MARKS:
                with self.assertRaises(BadMark) as caught:
                    Reader(FIRST, mark=value, when=value)
                self.assertIs(caught.exception.value, value)
            with self.assertRaises(BadWhen) as caught:
                Reader(FIRST, mark="least", when=value)
            self.assertIs(caught.exception.value, value)
        for mark in ("late", "early", "First", "first "):
            with self.assertRaises(BadMark):
                Reader(FIRST, mark=mark)
        for when in ("first", "Late", "late "):
            with self.assertRaises(BadWhen):
                Reader(FIRST, when=when)

    def test_mark_and_when_are_passed_by_keyword(self):
        with self.assertRaises(TypeError):
            Reader(FIRST, "first")

    def test_arguments_are_not_changed(self):
        row, reader = deepcopy(ROW), Reader(LAST, when="early")
        self.assertEqual(reader(row), reader(row))
        self.assertEqual(read_moment(reader, row), read_moment(reader, row))
        for mark in MARKS:
            self.assertEqual(end_that_counts(row, mark), end_that_counts(row, mark))
            self.assertEqual(is_whole(row, mark), is_whole(row, mark))
        self.assertEqual(row, ROW)


if __name__ == "__main__":
    unittest.main()
