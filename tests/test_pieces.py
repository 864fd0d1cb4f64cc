"""Promises 3 and 4: pieces, rows, places and stretching."""

import random
import unittest
from copy import deepcopy

from fragweave.bounds import PIECES, SIZE, VALUE
from fragweave.errors import TooLong
from fragweave.pieces import end_of, is_piece, is_row, over, places_of, stretched, value_at
from tests.helpers import ROW, any_values, plain_value, random_piece, random_row

PIECE = (2, (5, None, 7), False)


class IsPiece(unittest.TestCase):
    def test_pieces(self):
        for piece in (PIECE, (0, (0,), True), (0, (None,), False), (0, (VALUE,), False), (SIZE - 1, (1,), True)):
            self.assertIs(is_piece(piece), True, piece)

    def test_values_at_and_beyond_the_limits(self):
        for value, fits in ((0, True), (VALUE, True), (VALUE + 1, False), (-1, False), (None, True),
                            (True, False), (False, False), (1.0, False), ("1", False), ((1,), False), ([], False),
                            (10 ** 59, False), (-(10 ** 59), False)):
            self.assertIs(is_piece((0, (value,), False)), fits, value)
            self.assertIs(is_piece((0, (1, None, value), True)), fits, value)

    def test_begins(self):
        for begin, fits in ((0, True), (1, True), (-1, False), (SIZE - 2, True), (SIZE - 1, False), (SIZE, False),
                            (True, False), (False, False), (None, False), (0.0, False), ("0", False), ((), False),
                            (10 ** 59, False), (-(10 ** 59), False)):
            self.assertIs(is_piece((begin, (5, 6), False)), fits, begin)

    def test_ends_at_and_beyond_the_limit(self):
        self.assertIs(is_piece((0, (1,) * SIZE, False)), True)
        self.assertIs(is_piece((0, (1,) * (SIZE + 1), False)), False)
        self.assertIs(is_piece((1, (1,) * SIZE, False)), False)
        self.assertIs(is_piece((1, (None,) * (SIZE - 1), False)), True)
        self.assertIs(is_piece((0, (None,) * (SIZE + 1), False)), False)

    def test_last(self):
        for last, fits in ((True, True), (False, True), (0, False), (1, False), (None, False), ("", False)):
            self.assertIs(is_piece((0, (5,), last)), fits, last)

    def test_no_item(self):
        self.assertIs(is_piece((0, (), False)), False)
        self.assertIs(is_piece((SIZE, (), False)), False)

    def test_tuples_alone(self):
        for value in ([0, (5,), False], (0, [5], False), (0, {"a": 5}, False), (0, "5", False), (0, 5, False),
                      (0, None, False), (0, (5,)), (0, (5,), False, False), ((0, (5,), False),)):
            self.assertIs(is_piece(value), False, value)

    def test_any_value(self):
        for value in any_values():
            self.assertIs(is_piece(value), False)
            self.assertIs(is_piece((value, (5,), False)),
                          isinstance(value, int) and not isinstance(value, bool) and 0 <= value < SIZE)
            self.assertIs(is_piece((0, (5,), value)), isinstance(value, bool))
            self.assertIs(is_piece((0, value, False)), value == (None,))


class IsRow(unittest.TestCase):
    def test_rows(self):
        for row in ((), ROW, (PIECE,), (PIECE, PIECE)):
            self.assertIs(is_row(row), True, row)

    def test_number_of_pieces(self):
        self.assertIs(is_row((PIECE,) * PIECES), True)
        self.assertIs(is_row((PIECE,) * (PIECES + 1)), False)

    def test_no_rows(self):
        for value in ([], list(ROW), {}, None, "", PIECE, (None,), (ROW,), ((),), [PIECE], (list(PIECE),)):
            self.assertIs(is_row(value), False, value)

    def test_one_piece_changed(self):
        for wrong in ((-1, (5,), False), (0, (), False), (0, (5,), 1), (0, (True,), False), (0, [5], False)):
            for at in range(len(ROW)):
                self.assertIs(is_row(ROW[:at] + (wrong,) + ROW[at + 1:]), False, wrong)

    def test_any_value(self):
        for value in any_values():
            self.assertIs(is_row(value), isinstance(value, tuple) and value == ())
            self.assertIs(is_row((value,)), False)


class Places(unittest.TestCase):
    def test_end_of(self):
        for piece, end in ((PIECE, 5), ((0, (None,), True), 1), ((SIZE - 1, (5,), False), SIZE), ((3, (1, 2), True), 5)):
            self.assertEqual(end_of(piece), end)

    def test_places_of(self):
        self.assertEqual(places_of(PIECE), (2, 4))
        self.assertEqual(places_of((3, (None, None), True)), ())
        self.assertEqual(places_of((3, (0, 0), True)), (3, 4))
        self.assertEqual(places_of((0, (None, 0, None, 1), True)), (1, 3))

    def test_value_at(self):
        self.assertEqual([value_at(PIECE, place) for place in range(7)], [None, None, 5, None, 7, None, None])
        self.assertIsNone(value_at(PIECE, 10 ** 59))
        self.assertEqual(value_at((0, (0,), False), 0), 0)

    def test_a_place_ahead_of_a_piece_is_no_item_from_its_other_end(self):
        self.assertIsNone(value_at((3, (7, 8, 9), False), 2))
        self.assertIsNone(value_at((3, (7, 8, 9), False), 0))

    def test_over(self):
        row = (PIECE, (0, (1, 2, 3, 0), True), (4, (None,), False))
        self.assertEqual([over(row, place) for place in range(6)], [(1,), (1,), (0, 1), (1,), (0,), ()])
        self.assertEqual(over(row, 10 ** 59), ())
        self.assertEqual(over((), 0), ())

    def test_random_pieces(self):
        source = random.Random(4)
        for _ in range(300):
            piece = random_piece(source)
            values = {place: plain_value(piece, place) for place in range(9)}
            self.assertEqual({place: value_at(piece, place) for place in range(9)}, values)
            self.assertEqual(places_of(piece), tuple(place for place in range(9) if values[place] is not None))
            row = random_row(source)
            for place in range(9):
                found = tuple(k for k, one in enumerate(row) if plain_value(one, place) is not None)
                self.assertEqual(over(row, place), found)


class Stretched(unittest.TestCase):
    def test_nothing_changes_where_places_stay(self):
        self.assertEqual(stretched(ROW, (0, 1, 2, 3)), ROW)
        self.assertEqual(stretched(ROW, (0, 1, 2, 3, 99)), ROW)

    def test_one_place_becomes_many(self):
        row = ((0, (5, None, 6), True),)
        self.assertEqual(stretched(row, (0, 3, 5, 6)), ((0, (5, 5, 5, None, None, 6), True),))
        self.assertEqual(stretched(row, (4, 5, 6, 9)), ((4, (5, None, 6, 6, 6), True),))

    def test_numbers_behind_the_row_do_not_matter(self):
        self.assertEqual(stretched(((0, (5,), False),), (2, 3, 10 ** 50)), ((2, (5,), False),))

    def test_results_at_and_behind_the_limit(self):
        row = ((0, (5,), False), (1, (6,), True))
        self.assertEqual(stretched(row, (0, 1, SIZE)), ((0, (5,), False), (1, (6,) * (SIZE - 1), True)))
        for end in (SIZE + 1, 10 ** 7, 10 ** 59):
            with self.assertRaises(TooLong) as caught:
                stretched(row, (0, 1, end))
            self.assertEqual(caught.exception.end, end)

    def test_the_greatest_end_is_told(self):
        row = ((0, (5, 6, 7), False), (1, (6,), True))
        with self.assertRaises(TooLong) as caught:
            stretched(row, (10 ** 20, 10 ** 30, 10 ** 40, 10 ** 50))
        self.assertEqual(caught.exception.end, 10 ** 50)
        with self.assertRaises(TooLong) as caught:
            stretched(row[::-1], (0, 1, 2, SIZE + 1))
        self.assertEqual(caught.exception.end, SIZE + 1)

    def test_pieces_that_cover_nothing_have_ends_too(self):
        with self.assertRaises(TooLong) as caught:
            stretched(((0, (None,), False),), (0, SIZE + 1))
        self.assertEqual(caught.exception.end, SIZE + 1)

    def test_no_pieces(self):
        for numbers in ((0,), (SIZE + 1,), (10 ** 59, 10 ** 59 + 1)):
            self.assertEqual(stretched((), numbers), ())

    def test_many_pieces(self):
        row = ((0, (5,), False),) * PIECES
        self.assertEqual(stretched(row, (0, 10)), ((0, (5,) * 10, False),) * PIECES)

    def test_place_by_place(self):
        source = random.Random(5)
        for _ in range(200):
            row = random_row(source)
            numbers = tuple(sorted(source.sample(range(40), 7)))
            result = stretched(row, numbers)
            self.assertTrue(is_row(result))
            for piece, wide in zip(row, result, strict=True):
                self.assertEqual((wide[0], end_of(wide), wide[2]), (numbers[piece[0]], numbers[end_of(piece)], piece[2]))
                for place in range(6):
                    for number in range(numbers[place], numbers[place + 1]):
                        self.assertEqual(value_at(wide, number), value_at(piece, place))

    def test_arguments_are_not_changed(self):
        row, numbers = deepcopy(ROW), (1, 2, 4, 8)
        self.assertEqual(stretched(row, numbers), stretched(row, numbers))
        self.assertEqual((row, numbers), (ROW, (1, 2, 4, 8)))


class Unchanged(unittest.TestCase):
    def test_lists_are_not_changed(self):
        value = [[0, [5, None], False], {"a": [1]}]
        before = deepcopy(value)
        is_piece(value[0])
        is_row(value)
        is_row((value,))
        self.assertEqual(value, before)


if __name__ == "__main__":
    unittest.main()
