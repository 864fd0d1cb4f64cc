"""Promise 9: types and letters."""

import random
import unittest
from copy import deepcopy

from fragweave.errors import BadRows
from fragweave.tables import told_table
from fragweave.types import first_type, is_type, letters_of, next_type
from tests.helpers import CLASSES, NAMES, any_values, random_table
from tests.plain import changed, plain_first, plain_is_type, plain_letters, plain_next, plain_ranks, plain_step

FIRST = told_table("first")
LAST = told_table("last")
BEGINS = told_table("begins")
VOTE = told_table("vote")
TOPPED = ("begins", "ends")


def some_tables(source, many):
    """So many told or other tables."""
    return tuple(
        told_table(source.choice(NAMES)) if source.random() < 0.5 else random_table(source) for _ in range(many))


def walked(source, tables, rows, steps):
    """Types that come about behind each other, with a letter between two."""
    start = first_type(len(tables), rows=rows)
    for _ in range(steps):
        letter = source.choice(letters_of(start, rows=rows))
        following = next_type(tables, start, letter, rows=rows)
        yield start, letter, following
        start = first_type(len(tables), rows=rows) if following is None else following


def type_of_owners(holdings, spans, rows):
    """The type of runs with these holdings, spans being those of all pieces so far."""
    begins = [owner[0] for owner, _ in holdings]
    ends = [owner[0] + len(owner[1]) for owner, _ in holdings]
    side, sides = (1, ends) if rows == "ends" else (0, begins)
    tops = tuple(own == max(span[side] for span in spans) for own in sides) if rows in TOPPED else ()
    return (tuple(state for _, state in holdings), plain_ranks(begins), plain_ranks(ends), tops)


class FirstType(unittest.TestCase):
    def test_each_class(self):
        for many in (1, 2, 3):
            for rows in CLASSES:
                self.assertEqual(first_type(many, rows=rows), plain_first(many, rows))
            self.assertEqual(first_type(many), ((0,) * many, (0,) * many, (0,) * many, ()))


class Letters(unittest.TestCase):
    def test_numbers_of_letters(self):
        counts = {rows: len(letters_of(first_type(1, rows=rows), rows=rows)) for rows in CLASSES}
        self.assertEqual(counts, {"all": 27, "nested": 9, "stairs": 9, "begins": 18, "ends": 18})
        self.assertEqual(len(letters_of(((0, 0, 0), (0, 1, 2), (2, 1, 0), ()))), 147)

    def test_tops(self):
        lies = letters_of(((0,), (0,), (0,), (False,)), rows="begins")
        self.assertEqual(sorted({begin for begin, _, _ in lies}), [2])
        lies = letters_of(((0, 0), (0, 1), (0, 0), (False, True)), rows="begins")
        self.assertEqual(sorted({begin for begin, _, _ in lies}), [3, 4])
        lies = letters_of(((0, 0), (0, 1), (1, 0), (True, False)), rows="ends")
        self.assertEqual(sorted({end for _, end, _ in lies}), [3, 4])

    def test_after_the_words_of_the_document(self):
        source = random.Random(40)
        for rows in CLASSES:
            for _ in range(60):
                many = source.randint(1, 3)
                tops = tuple(source.random() < 0.5 for _ in range(many)) if rows in TOPPED else ()
                ranks = [plain_ranks([source.randrange(3) for _ in range(many)]) for _ in range(2)]
                start = ((0,) * many, *ranks, tops)
                self.assertEqual(letters_of(start, rows=rows), plain_letters(start, rows))


class NextType(unittest.TestCase):
    def test_tops(self):
        for rows, letter, other in (("begins", (2, 1, 1), (1, 2, 1)), ("ends", (1, 2, 1), (2, 1, 1))):
            start = first_type(2, rows=rows)
            behind = next_type((FIRST, LAST), start, letter, rows=rows)
            self.assertEqual(behind[3], (False, True))
            self.assertEqual(next_type((FIRST, LAST), start, other, rows=rows)[3], (True, True))
        behind = ((0, 0), (0, 1), (0, 0), (False, True))
        self.assertEqual(next_type((FIRST, LAST), behind, (3, 1, 1), rows="begins")[3], (False, True))
        self.assertEqual(next_type((FIRST, FIRST), behind, (4, 1, 1), rows="begins")[3], (False, False))

    def test_none_exactly_where_unlike_values_are_read(self):
        start = first_type(2)
        for letter in letters_of(start):
            self.assertEqual(next_type((FIRST, LAST), start, letter) is None, letter[2] != 1)
            self.assertIsNotNone(next_type((LAST, LAST), start, letter))
            self.assertEqual(next_type((FIRST, BEGINS), start, letter) is None, letter[0] == 0 and letter[2] != 1)

    def test_after_the_words_of_the_document(self):
        source = random.Random(41)
        found = [0, 0]
        for rows in CLASSES:
            for _ in range(120):
                tables = some_tables(source, source.randint(1, 3))
                for start, letter, following in walked(source, tables, rows, 8):
                    self.assertEqual(following, plain_next(tables, start, letter, rows))
                    self.assertTrue(following is None or is_type(tables, following, rows=rows))
                    found[following is None] += 1
        self.assertGreater(min(found), 300)

    def test_rows_with_these_letters(self):
        """Each piece put behind a row has one of the letters, and the letter leads where the piece leads."""
        source = random.Random(42)
        for rows in CLASSES:
            for _ in range(150):
                tables = some_tables(source, source.randint(1, 3))
                self.check_row(source, tables, rows)

    def check_row(self, source, tables, rows):
        place, spans = 5, []
        holdings = [None] * len(tables)
        for _ in range(5):
            span = self.some_span(source, spans, rows)
            piece = (span[0], (source.randrange(3),) * (span[1] - span[0]), False)
            if spans:
                start = type_of_owners(holdings, spans, rows)
                letter = self.letter_of(piece, holdings)
                self.assertIn(letter, letters_of(start, rows=rows))
            holdings = [plain_step(table, holding, piece, place) for table, holding in zip(tables, holdings)]
            alike = len({owner[1][0] for owner, _ in holdings}) == 1
            behind = type_of_owners(holdings, [*spans, span], rows) if alike else None
            expected = next_type(tables, start, letter, rows=rows) if spans else first_type(len(tables), rows=rows)
            self.assertEqual(behind, expected)
            spans.append(span)
            if not alike:
                return

    def some_span(self, source, spans, rows):
        """A span over the place 5 that may come behind these spans in the class."""
        while True:
            begin, end = source.randint(0, 5), source.randint(6, 11)
            row = [*spans, (begin, end)]
            if rows == "begins" and begin < max(span[0] for span in row):
                continue
            if rows == "ends" and end < max(span[1] for span in row):
                continue
            turned = sorted({(span[0], -span[1] if rows == "nested" else span[1]) for span in row})
            strict = all(one[0] < other[0] and one[1] < other[1] for one, other in zip(turned, turned[1:]))
            if strict or rows not in ("nested", "stairs"):
                return (begin, end)

    def letter_of(self, piece, holdings):
        """The letter of a piece over owners that have the same value."""
        begins = sorted({owner[0] for owner, _ in holdings})
        ends = sorted({owner[0] + len(owner[1]) for owner, _ in holdings})
        begin, end, value = piece[0], piece[0] + len(piece[1]), holdings[0][0][1][0]
        at = [2 * sum(other < own for other in others) + (own in others) for own, others in ((begin, begins), (end, ends))]
        return (*at, 0 if piece[1][0] < value else 1 if piece[1][0] == value else 2)


class IsType(unittest.TestCase):
    def test_any_value(self):
        for rows in CLASSES:
            for value in any_values():
                self.assertIs(is_type((FIRST, LAST), value, rows=rows), False)

    def test_parts_changed(self):
        source = random.Random(43)
        found = [0, 0]
        for rows in CLASSES:
            for _ in range(12):
                tables = some_tables(source, source.randint(1, 3))
                for start, _, _ in walked(source, tables, rows, 3):
                    self.assertIs(is_type(tables, start, rows=rows), True)
                    for value in changed(start):
                        expected = plain_is_type(tables, value, rows)
                        found[expected] += 1
                        self.assertIs(is_type(tables, value, rows=rows), expected, (value, rows))
        self.assertGreater(min(found), 50)

    def test_ranks(self):
        for ranks in ((0, 2, 1), (0, 0, 0), (1, 0, 1)):
            self.assertIs(is_type((FIRST,) * 3, ((0, 0, 0), ranks, (0, 0, 0), ())), True)
            self.assertIs(is_type((FIRST,) * 3, ((0, 0, 0), (0, 0, 0), ranks, ())), True)
        for ranks in ((1, 2, 3), (0, 2, 2), (1, 1, 1), (0, 0, -1), (0, True, 0), (0, 0), (0, 0, 0, 0), [0, 0, 0]):
            self.assertIs(is_type((FIRST,) * 3, ((0, 0, 0), ranks, (0, 0, 0), ())), False)
            self.assertIs(is_type((FIRST,) * 3, ((0, 0, 0), (0, 0, 0), ranks, ())), False)

    def test_states_and_tops(self):
        self.assertIs(is_type((VOTE, FIRST), ((1, 0), (0, 0), (0, 0), ())), True)
        for states in ((0, 1), (2, 0), (-1, 0), (False, 0), (0,), (0, 0, 0), [0, 0]):
            self.assertIs(is_type((VOTE, FIRST), (states, (0, 0), (0, 0), ())), False)
        for rows in TOPPED:
            for tops in ((True, True), (True, False), (False, False)):
                self.assertIs(is_type((VOTE, FIRST), ((0, 0), (0, 1), (0, 0), tops), rows=rows), True)
                self.assertIs(is_type((VOTE, FIRST), ((0, 0), (0, 1), (0, 0), tops)), False)
            for tops in ((), (True,), (1, 0), [True, True], (None, None), (True, True, True)):
                self.assertIs(is_type((VOTE, FIRST), ((0, 0), (0, 1), (0, 0), tops), rows=rows), False)


class Rows(unittest.TestCase):
    def test_wrong_classes(self):
        start = first_type(2)
        for value in (*any_values(), "All", "nest", ("all",)):
            for call in (
                    lambda: first_type(2, rows=value), lambda: letters_of(start, rows=value),
                    lambda: next_type((FIRST, LAST), start, (1, 1, 1), rows=value),
                    lambda: is_type((FIRST, LAST), start, rows=value)):
                with self.assertRaises(BadRows) as caught:
                    call()
                self.assertIs(caught.exception.rows, value)

    def test_rows_are_passed_by_keyword(self):
        with self.assertRaises(TypeError):
            first_type(2, "all")

    def test_arguments_are_not_changed(self):
        tables, start, letter = (FIRST, VOTE), first_type(2), (1, 1, 1)
        kept = deepcopy((tables, start, letter))
        self.assertEqual(next_type(tables, start, letter), next_type(tables, start, letter))
        self.assertEqual(letters_of(start), letters_of(start))
        self.assertEqual((tables, start, letter), kept)


if __name__ == "__main__":
    unittest.main()
