"""Promise 3: what an integer is, and how it is written."""

import unittest

from fragweave.integers import integer_read, is_integer, is_within
from fragweave.pieces import greatest_end
from tests.helpers import ROW, any_values


class Integers(unittest.TestCase):
    def test_is_integer(self):
        for value in any_values():
            self.assertIs(is_integer(value), value.__class__ is int)

    def test_is_within(self):
        self.assertEqual([is_within(value, 1, 3) for value in (0, 1, 2, 3, 4, True, None)],
                         [False, True, True, True, False, False, False])

    def test_integer_read(self):
        for word, most, number in (
                ("0", 0, 0), ("0", 9, 0), ("7", 7, 7), ("8", 7, None), ("10", 9, None), ("100", 100, 100), ("101", 100, None),
                ("07", 99, None), ("00", 99, None), ("", 9, None), ("-1", 9, None), ("+1", 9, None), (" 1", 99, None),
                ("1_0", 999, None), ("9" * 10000, 10 ** 6, None), ("0" * 10000, 10 ** 6, None)):
            self.assertEqual(integer_read(word, most), number, (word[:20], most))

    def test_greatest_end(self):
        self.assertEqual([greatest_end(row) for row in ((), ROW, ROW[:1], ((2, (None, None), False), *ROW))], [0, 3, 2, 4])


if __name__ == "__main__":
    unittest.main()
