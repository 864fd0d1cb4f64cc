"""Promise 16: the object Tidier."""

import random
import unittest
from itertools import product

from fragweave.bounds import PIECES
from fragweave.errors import BadPiece, Fails, Nothing, TooMany
from fragweave.pieces import is_piece
from fragweave.tables import told_table
from fragweave.tidiers import Tidier
from fragweave.tidy import find_tidy
from tests.helpers import NAMES, ROW, any_values, random_piece, random_table
from tests.plain import one_entry_changed, other_form, plain_read

FIRST = told_table("first")
LAST = told_table("last")
VOTE = told_table("vote")
MOST = told_table("most")
SERVED = ((FIRST, LAST), (FIRST, VOTE), (MOST, VOTE), (told_table("begins"), LAST), (told_table("begins"), told_table("ranked")),
          (FIRST, LAST, VOTE), (FIRST, told_table("inner"), LAST), (told_table("ends"), LAST, LAST), (VOTE, other_form(VOTE)))


def all_of(tidier):
    """All that a Tidier tells of itself."""
    return (tidier.row, tidier.passed, len(tidier))


def filled(tables, row):
    """A Tidier of these tables that a row has come to."""
    tidier = Tidier(*tables)
    for piece in row:
        tidier.put(piece)
    return tidier


def some_row(source, count, most_end=5):
    """A row of so many pieces."""
    return tuple(random_piece(source, most_end=most_end) for _ in range(count))


class Serving(unittest.TestCase):
    def check_moment(self, tables, tidier, places):
        """Each other table reads of what was passed on what the table reads of all."""
        for place in places:
            value = plain_read(tables[0], tidier.row, place)
            self.assertEqual([plain_read(table, tidier.passed, place) for table in tables[1:]], [value] * (len(tables) - 1))

    def check_piece(self, piece, passed):
        """A piece that was passed on is the one that came, but for values that were left."""
        self.assertTrue(is_piece(passed))
        self.assertEqual((passed[0], len(passed[1]), passed[2]), (piece[0], len(piece[1]), piece[2]))
        self.assertTrue(all(one is None or one == other for one, other in zip(passed[1], piece[1])))

    def test_each_moment_and_place(self):
        source = random.Random(100)
        for tables in SERVED:
            for _ in range(4):
                tidier = Tidier(*tables)
                for count in range(1, 13):
                    piece = random_piece(source, most_end=5)
                    passed = tidier.put(piece)
                    self.check_piece(piece, passed)
                    self.assertEqual((tidier.row[-1], tidier.passed[-1], len(tidier)), (piece, passed, count))
                    self.check_moment(tables, tidier, range(6))

    def test_other_tables(self):
        source = random.Random(101)
        served = 0
        for at in range(40):
            table = random_table(source, states=source.randint(1, 6))
            others = (LAST,) if at % 2 else (one_entry_changed(source, table),)
            if find_tidy(table, *others)[0] == "fails":
                with self.assertRaises(Fails):
                    Tidier(table, *others)
                continue
            served += 1
            tidier = filled((table, *others), some_row(source, 8))
            self.check_moment((table, *others), tidier, range(6))
        self.assertGreater(served, 5)

    def test_told_tables(self):
        source = random.Random(102)
        for one, other in product(NAMES, repeat=2):
            tables = (told_table(one), told_table(other))
            if find_tidy(*tables)[0] == "fails":
                with self.assertRaises(Fails):
                    Tidier(*tables)
            else:
                self.check_moment(tables, filled(tables, some_row(source, 9)), range(6))

    def test_the_first_piece_over_a_place_is_passed_on(self):
        for tables in SERVED:
            tidier = Tidier(*tables)
            self.assertEqual(tidier.put((1, (5, None, 7), True)), (1, (5, None, 7), True))
            self.assertEqual(tidier.put((0, (4, None, 6, None), False)), (0, (4, None, 6, None), False))

    def test_a_piece_that_is_left_at_all_its_places(self):
        tidier = filled((FIRST, LAST), ((0, (5, 6), False),))
        self.assertEqual(tidier.put((0, (7, 8, 9)[:2], True)), (0, (None, None), True))
        self.assertEqual(tidier.put((1, (None,), True)), (1, (None,), True))
        self.assertEqual(tidier.passed, ((0, (5, 6), False), (0, (None, None), True), (1, (None,), True)))
        self.assertEqual(tidier.row, ((0, (5, 6), False), (0, (7, 8), True), (1, (None,), True)))

    def test_two_thousand_pieces(self):
        source = random.Random(103)
        for tables in ((FIRST, LAST), (MOST, VOTE), (FIRST, LAST, VOTE)):
            row = tuple((k % 40, (source.randrange(3), None, source.randrange(5)), k % 7 == 0) for k in range(PIECES))
            tidier = filled(tables, row)
            before = all_of(tidier)
            self.assertEqual((before[0], before[2]), (row, PIECES))
            self.check_moment(tables, tidier, range(0, 43, 7))
            with self.assertRaises(TooMany) as caught:
                tidier.put((0, (5,), False))
            self.assertEqual(caught.exception.limit, PIECES)
            with self.assertRaises(BadPiece):
                tidier.put(None)
            self.assertEqual(all_of(tidier), before)
            self.assertEqual(tidier.back(), row[-1])
            self.assertEqual(tidier.put(row[-1]), before[1][-1])
            self.assertEqual(all_of(tidier), before)

    def test_long_pieces(self):
        source = random.Random(104)
        row = tuple((source.randrange(4900), tuple(source.randrange(3) for _ in range(100)), False) for _ in range(300))
        tidier = filled((told_table("ranked"), LAST), row)
        for place in range(0, 5000, 97):
            values = {plain_read(told_table("ranked"), row, place), plain_read(LAST, tidier.passed, place)}
            self.assertEqual(len(values), 1)


class Backs(unittest.TestCase):
    def test_back_returns_the_piece_as_it_came(self):
        for tables in SERVED:
            tidier = filled(tables, ROW)
            self.assertEqual([tidier.back() for _ in ROW], list(ROW[::-1]))
            self.assertEqual(all_of(tidier), ((), (), 0))
            with self.assertRaises(Nothing):
                tidier.back()
            self.assertEqual(tidier.put(ROW[0]), ROW[0])

    def test_put_and_back_in_any_order(self):
        source = random.Random(105)
        for tables in SERVED:
            tidier, row = Tidier(*tables), ()
            for _ in range(40):
                if row and source.random() < 0.4:
                    self.assertEqual(tidier.back(), row[-1])
                    row = row[:-1]
                else:
                    row += (random_piece(source, most_end=4),)
                    tidier.put(row[-1])
                self.assertEqual(tidier.row, row)
                self.assertEqual(len(tidier), len(row))
            self.assertEqual(all_of(tidier), all_of(filled(tables, row)))


class Alike(unittest.TestCase):
    def test_two_tidiers_of_the_same_tables(self):
        source = random.Random(106)
        for tables in SERVED:
            row = some_row(source, 30)
            self.assertEqual(filled(tables, row).passed, filled(tables, row).passed)
            # Pieces that come elsewhere, in the same way, are passed on in the same way.
            shifted = tuple((begin + 9, tuple(None if value is None else value + 5 for value in values), last)
                            for begin, values, last in row)
            left = [[value is None for value in values] for _, values, _ in filled(tables, row).passed]
            self.assertEqual([[value is None for value in values] for _, values, _ in filled(tables, shifted).passed], left)

    def test_copies(self):
        source = random.Random(107)
        for tables in SERVED:
            row, more = some_row(source, 15), some_row(source, 15)
            tidier = filled(tables, row)
            twin = tidier.copy()
            self.assertIsInstance(twin, Tidier)
            self.assertEqual(all_of(twin), all_of(tidier))
            for piece in more:
                twin.put(piece)
            self.assertEqual(all_of(tidier), all_of(filled(tables, row)))
            self.assertEqual(all_of(twin), all_of(filled(tables, row + more)))
            for piece in more:
                tidier.put(piece)
            self.assertEqual(all_of(tidier), all_of(twin))
            while len(twin):
                twin.back()
            self.assertEqual(all_of(tidier), all_of(filled(tables, row + more)))
            self.assertEqual(all_of(twin.copy()), ((), (), 0))


class Errors(unittest.TestCase):
    def test_what_is_no_piece(self):
        for tables in ((FIRST, LAST), (FIRST, LAST, VOTE)):
            tidier = filled(tables, ROW)
            before = all_of(tidier)
            for value in (*any_values(), ROW, (0, (), False), (0, (True,), False), (0, (5,), 0), (-1, (5,), True), (4999, (1, 2), True)):
                with self.assertRaises(BadPiece) as caught:
                    tidier.put(value)
                self.assertIs(caught.exception.piece, value)
            self.assertEqual(all_of(tidier), before)

    def test_nothing_to_take_back(self):
        tidier = Tidier(FIRST, LAST)
        with self.assertRaises(Nothing):
            tidier.back()
        self.assertEqual(all_of(tidier), ((), (), 0))

    def test_too_many_states_come_first(self):
        three = MOST
        for tables in ((three, three, FIRST), (FIRST, three, three), (LAST, three, three), (three, FIRST, three)):
            with self.assertRaises(TooMany) as caught:
                Tidier(*tables)
            self.assertEqual(caught.exception.limit, 8)
        with self.assertRaises(Fails):
            Tidier(LAST, FIRST, three)
        with self.assertRaises(Fails):
            Tidier(LAST, FIRST)

    def test_properties_cannot_be_assigned(self):
        tidier = filled((FIRST, LAST), ROW)
        before = all_of(tidier)
        for name in ("row", "passed"):
            with self.assertRaises(AttributeError):
                setattr(tidier, name, ())
        self.assertEqual(all_of(tidier), before)


if __name__ == "__main__":
    unittest.main()
