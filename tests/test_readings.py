"""Section 3: the object Reading."""

import random
import unittest
import unittest.mock

from fragweave.bounds import PIECES
from fragweave.errors import BadPiece, Nothing, TooMany
from fragweave.places import steps_at
from fragweave.readers import Reader
from fragweave.reading import Reading
from fragweave.tables import told_table
from tests.helpers import MARKS, ROW, any_values, plain_packet, plain_steps, random_piece, random_row, tables_to_try

FIRST = told_table("first")
LAST = told_table("last")
VOTE = told_table("vote")


def all_of(reading):
    """All that a Reading tells of itself."""
    return (reading.row, reading.told, reading.owners(), reading.states(), len(reading))


def filled(reader, row):
    """A Reading to which the pieces of a row have come."""
    reading = Reading(reader)
    for piece in row:
        reading.put(piece)
    return reading


def expected(reader, row):
    """What all_of returns behind the pieces of a row, made from the row alone."""
    end = max((begin + len(values) for begin, values, _ in row), default=0)
    steps = [plain_steps(reader.table, row, place) for place in range(end)]
    return (
        row, plain_packet(reader.table, row, reader.mark, reader.when),
        tuple(one[-1][1] if one else None for one in steps), tuple(one[-1][2] if one else None for one in steps), len(row))


class Readings(unittest.TestCase):
    def test_empty(self):
        for when in ("late", "early"):
            self.assertEqual(all_of(Reading(Reader(FIRST, when=when))), ((), None, (), (), 0))

    def test_put_counts(self):
        reading = Reading(Reader(LAST))
        self.assertEqual([reading.put(piece) for piece in ROW], [1, 2, 3])
        self.assertEqual(all_of(reading), (ROW, (1, 7, 3), (0, 1, 2), (0, 0, 0), 3))

    def test_back_returns_the_last_piece(self):
        reading = filled(Reader(LAST), ROW)
        self.assertEqual([reading.back() for _ in ROW], list(ROW[::-1]))
        self.assertEqual(all_of(reading), ((), None, (), (), 0))
        self.assertEqual(reading.put(ROW[0]), 1)

    def test_places_that_no_piece_covers(self):
        reading = filled(Reader(VOTE), ((2, (5, None), False), (0, (None,), True)))
        self.assertEqual(reading.owners(), (None, None, 0, None))
        self.assertEqual(reading.states(), (None, None, 0, None))
        self.assertIsNone(reading.told)

    def test_owners_have_numbers_of_the_whole_row(self):
        reading = filled(Reader(LAST), ((0, (None, 5), False), (0, (6,), True), (1, (7,), False)))
        self.assertEqual(reading.owners(), (1, 2))

    def test_early_reading(self):
        reading = filled(Reader(LAST, when="early"), ((0, (5, 5), True),))
        self.assertEqual(reading.told, (5, 5))
        reading.put((0, (6, 6, 6), True))
        self.assertEqual((reading.told, reading.owners(), reading.states()), ((5, 5), (1, 1, 1), (0, 0, 0)))
        reading.back()
        self.assertEqual(reading.told, (5, 5))
        reading.back()
        self.assertIsNone(reading.told)
        reading.put((0, (7,), True))
        self.assertEqual(reading.told, (7,))

    def test_late_reading_changes(self):
        reading = filled(Reader(LAST, mark="last"), ((0, (5, 5), True),))
        self.assertEqual(reading.told, (5, 5))
        reading.put((0, (6, 6, 6), False))
        self.assertEqual(reading.told, (6, 6))
        reading.put((4, (6,), True))
        self.assertIsNone(reading.told)
        reading.put((0, (7,), True))
        self.assertEqual(reading.told, (7,))

    def test_put_and_back_in_any_order(self):
        source = random.Random(32)
        for table in tables_to_try(33):
            for when in ("late", "early"):
                reader = Reader(table, mark=source.choice(MARKS), when=when)
                reading, row = Reading(reader), ()
                for _ in range(25):
                    if row and source.random() < 0.4:
                        self.assertEqual(reading.back(), row[-1])
                        row = row[:-1]
                    else:
                        piece = random_piece(source, most_end=4)
                        row += (piece,)
                        self.assertEqual(reading.put(piece), len(row))
                    self.assertEqual(all_of(reading), expected(reader, row))

    def test_told_is_what_the_reader_reads(self):
        source = random.Random(34)
        for table in tables_to_try(35):
            for mark in MARKS:
                for when in ("late", "early"):
                    reader, row = Reader(table, mark=mark, when=when), random_row(source, most_end=3)
                    self.assertEqual(filled(reader, row).told, reader(row))

    def test_properties_cannot_be_assigned(self):
        reading = filled(Reader(FIRST), ROW)
        for name in ("row", "told"):
            with self.assertRaises(AttributeError):
                setattr(reading, name, ())
        self.assertEqual(all_of(reading), expected(Reader(FIRST), ROW))

    def test_two_thousand_pieces(self):
        for when in ("late", "early"):
            reading = Reading(Reader(VOTE, when=when))
            row = tuple((k % 40, (k % 3, None, k % 5), k % 7 == 0) for k in range(PIECES))
            for number, piece in enumerate(row, start=1):
                self.assertEqual(reading.put(piece), number)
            before = all_of(reading)
            self.assertEqual(before, expected(Reader(VOTE, when=when), row))
            with self.assertRaises(TooMany) as caught:
                reading.put((0, (5,), False))
            self.assertEqual(caught.exception.limit, PIECES)
            with self.assertRaises(BadPiece):
                reading.put(None)
            self.assertEqual(all_of(reading), before)
            self.assertEqual(reading.back(), row[-1])
            self.assertEqual(reading.put(row[0]), PIECES)


class Errors(unittest.TestCase):
    def test_what_is_no_piece(self):
        reading = filled(Reader(VOTE), ROW)
        before = all_of(reading)
        for value in (*any_values(), ROW, (0, (), False), (0, (True,), False), (0, (5,), 0), (-1, (5,), True)):
            with self.assertRaises(BadPiece) as caught:
                reading.put(value)
            self.assertIs(caught.exception.piece, value)
        self.assertEqual(all_of(reading), before)

    def test_nothing_to_take_back(self):
        for when in ("late", "early"):
            reading = Reading(Reader(FIRST, when=when))
            with self.assertRaises(Nothing):
                reading.back()
            self.assertEqual(all_of(reading), ((), None, (), (), 0))
            reading.put(ROW[0])
            reading.back()
            with self.assertRaises(Nothing):
                reading.back()
            self.assertEqual(reading.put((0, (5,), True)), 1)
            self.assertEqual(reading.told, (5,))


class Copies(unittest.TestCase):
    def test_independent(self):
        for when in ("late", "early"):
            reader = Reader(VOTE, mark="last", when=when)
            reading = filled(reader, ROW)
            twin = reading.copy()
            self.assertIsInstance(twin, Reading)
            self.assertEqual(all_of(twin), all_of(reading))
            self.assertEqual(twin, reading)
            twin.put((0, (9, 9, 9, 9), True))
            self.assertEqual(all_of(reading), expected(reader, ROW))
            self.assertEqual(all_of(twin), expected(reader, ROW + ((0, (9, 9, 9, 9), True),)))
            reading.back()
            reading.back()
            self.assertEqual(all_of(reading), expected(reader, ROW[:1]))
            self.assertEqual(len(twin), 4)
            while len(twin):
                twin.back()
            self.assertEqual(all_of(twin), ((), None, (), (), 0))
            self.assertEqual(all_of(reading), expected(reader, ROW[:1]))

    def test_empty(self):
        reading = Reading(Reader(FIRST))
        twin = reading.copy()
        twin.put(ROW[0])
        self.assertEqual((len(reading), len(twin)), (0, 1))


class Equality(unittest.TestCase):
    def test_equal(self):
        self.assertEqual(Reading(Reader(FIRST)), Reading(Reader(told_table("first"))))
        self.assertEqual(filled(Reader(FIRST), ROW), filled(Reader(FIRST), ROW))
        back = filled(Reader(FIRST), ROW + ROW)
        for _ in ROW:
            back.back()
        self.assertTrue(back == filled(Reader(FIRST), ROW))
        self.assertFalse(back != filled(Reader(FIRST), ROW))

    def test_unlike_rows(self):
        self.assertNotEqual(filled(Reader(FIRST), ROW), filled(Reader(FIRST), ROW[:2]))
        self.assertNotEqual(filled(Reader(FIRST), ROW), filled(Reader(FIRST), ROW[::-1]))

    def test_unlike_readers(self):
        reading = Reading(Reader(FIRST))
        for other in (Reader(LAST), Reader(FIRST, mark="last"), Reader(FIRST, when="early")):
            self.assertTrue(reading != Reading(other))
            self.assertFalse(reading == Reading(other))

    def test_readers_with_unlike_texts_though_they_read_alike(self):
        alike = ((("old", 1),) * 27, (("old", 0),) * 27)
        self.assertNotEqual(Reading(Reader(FIRST)), Reading(Reader(alike)))

    def test_anything_else(self):
        reading = Reading(Reader(FIRST))
        for value in (*any_values(), reading.row, Reader(FIRST), str(Reader(FIRST)), unittest.mock.ANY):
            self.assertIs(reading == value, False)
            self.assertIs(reading != value, True)


class Steps(unittest.TestCase):
    def test_owners_and_states_are_the_last_steps(self):
        reading = filled(Reader(VOTE, when="early"), ROW + ROW)
        for place in range(3):
            _, owner, state = steps_at(VOTE, ROW + ROW, place)[-1]
            self.assertEqual((reading.owners()[place], reading.states()[place]), (owner, state))


if __name__ == "__main__":
    unittest.main()
