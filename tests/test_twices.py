"""Promises 14 and 15: tables and readers to which a piece that comes again does not matter."""

import random
import unittest
from copy import deepcopy
from functools import lru_cache

from fragweave.classes import is_in
from fragweave.errors import BadRows
from fragweave.pieces import is_row, places_of
from fragweave.places import value_read
from fragweave.readers import Reader
from fragweave.tables import told_table
from fragweave.twices import find_twice, twice_holds
from tests.helpers import MARKS, NAMES, any_values, random_row, random_table
from tests.plain import (by_begin, fits, one_entry_changed, other_form, pieces_over, plain_closed, plain_closure, plain_read,
                         plain_step, rows_over, shuffled, slow_table, some_changed, span_of, table_of, type_between)

FIRST = told_table("first")
LAST = told_table("last")
VOTE = told_table("vote")
RANKED = told_table("ranked")
CLASSES = ("all", "nested", "stairs")


@lru_cache(maxsize=None)
def plain_needed(table, rows, most=None):
    """The types behind all rows with one piece once more at the end, with None where unlike values are read.

    The rows are those over a place with three begins, ends and values, of at most so many pieces, or of any number.
    """
    layer = {(None, None, ())}
    seen, needed, count = set(), set(), 0
    while layer and count != most:
        behind = set()
        for holding, twin, spans in layer:
            for piece in [piece for piece in pieces_over(2) if fits(spans, span_of(piece), rows)]:
                owner = plain_step(table, holding, piece, 2)
                near = tuple(sorted({*spans, span_of(piece)})) if rows != "all" else ()
                behind.update({(owner, twin, near), (owner, piece, near)})
        layer = behind - seen
        seen |= layer
        needed |= {type_between(one, plain_step(table, one, twin, 2)) for one, twin, _ in layer if twin is not None}
        count += 1
    return needed


def plain_twice_holds(table, value, rows, needed):
    """Whether a tuple is a twice paper, by the words of the document."""
    if type(value) is not tuple:
        return False
    if len(value) == 2 and value[0] == "free":
        return plain_closed((table, table), value[1], rows) and all(start in value[1] for start in needed)
    if len(value) != 5 or value[0] != "bound" or not is_row(value[1]) or not is_in(value[1], rows):
        return False
    _, row, k, j, place = value
    if any(type(number) is not int for number in (k, j, place)) or place < 0 or not 0 <= k < j <= len(row):
        return False
    return value_read(table, row, place) != value_read(table, row[:j] + (row[k],) + row[j:], place)


def fewest_bound(table, rows, most):
    """The fewest pieces over a place of which one that comes again matters, by a trial of all, None if more than most."""
    for row in rows_over(2, rows, most):
        read = plain_read(table, row, 2)
        for j in range(1, len(row) + 1):
            for k in range(j):
                if plain_read(table, row[:j] + (row[k],) + row[j:], 2) != read:
                    return len(row)
    return None


class FindTwice(unittest.TestCase):
    def check_paper(self, table, rows):
        paper = find_twice(table, rows=rows)
        self.assertIs(twice_holds(table, paper, rows=rows), True)
        if paper[0] == "free":
            return paper
        word, row, k, j, place = paper
        self.assertEqual((word, is_row(row), is_in(row, rows)), ("bound", True, True))
        self.assertTrue(0 <= k < j <= len(row))
        self.assertNotEqual(plain_read(table, row, place), plain_read(table, row[:j] + (row[k],) + row[j:], place))
        self.assertTrue(all(place in places_of(piece) and not piece[2] for piece in row))
        return paper

    def test_told_tables(self):
        for name in NAMES:
            for rows in CLASSES:
                paper = self.check_paper(told_table(name), rows)
                if name in ("last", "vote", "most"):
                    self.assertEqual((paper[0], len(paper[1])), ("bound", 2))
                else:
                    self.assertEqual(paper, ("free", (((0, 0), (0, 0), (0, 0), ()),)))

    def test_the_fewest_types(self):
        source = random.Random(80)
        counts = set()
        for name in ("first", "begins", "least", "ranked"):
            for rows in CLASSES:
                for states in (1, 2) if rows != "all" else (1,):
                    table = shuffled(source, told_table(name), states)
                    needed = plain_needed(table, rows)
                    closure = plain_closure((table, table), needed, rows)
                    self.assertEqual(find_twice(table, rows=rows), ("free", closure))
                    counts.add(len(closure))
        self.assertEqual(counts, {1, 4})

    def test_the_fewest_pieces(self):
        source = random.Random(81)
        found = {}
        for at in range(40):
            table = random_table(source, states=source.randint(2, 3))
            if at % 2:
                table = shuffled(source, told_table(source.choice(("first", "ranked", "begins"))), 2)
                table = one_entry_changed(source, one_entry_changed(source, table))
            rows = ("nested", "stairs", "all")[at // 2 % 3]
            paper = self.check_paper(table, rows)
            most = 2 if rows == "all" else 3
            fewest = len(paper[1]) if paper[0] == "bound" and len(paper[1]) <= most else None
            found[rows, fewest] = found.get((rows, fewest), 0) + 1
            self.assertEqual(fewest_bound(table, rows, most), fewest, (table, rows))
        self.assertGreater(len(found), 5, found)

    def test_a_piece_counts_that_owns_nothing_any_more(self):
        """The first piece comes again behind the state in which one of its kind is taken."""
        table = (tuple(("new" if at == 14 else "old", 0) for at in range(27)),)
        paper = self.check_paper(table, "all")
        self.assertEqual(paper[0], "free")
        late = ((*FIRST[0][:14], ("old", 1), *FIRST[0][15:]), (*((("old", 1),) * 13), ("new", 1), *((("old", 1),) * 13)))
        self.assertEqual(self.check_paper(late, "all")[0], "free")
        back = ((*FIRST[0][:14], ("old", 1), *FIRST[0][15:]), (*((("old", 1),) * 14), ("new", 1), *((("old", 1),) * 12)))
        for rows in CLASSES:
            paper = self.check_paper(back, rows)
            self.assertEqual((paper[0], len(paper[1])), ("bound", 2))

    def test_slow_tables(self):
        source = random.Random(87)
        counts = []
        for _ in range(40):
            table = slow_table(source)
            for rows in CLASSES:
                counts.append(len(self.check_paper(table, rows)[1]))
        self.assertGreater(sum(count > 3 for count in counts), 20)

    def test_the_twin_may_be_any_piece(self):
        """Here only the third piece counts again: a second one that begins so early leads to no other state."""
        third = table_of(by_begin(less="o3", greater="o1"), by_begin(less="o2"), by_begin(less="n2"), {})
        # And here a second one that owns nothing, behind a third one that begins later than the owner.
        second = table_of(by_begin(less="o1"), by_begin(greater="o2"), by_begin(less="n2"))
        for table, twin in ((third, 2), (second, 1)):
            for rows in CLASSES:
                paper = self.check_paper(table, rows)
                self.assertEqual((paper[0], len(paper[1]), paper[2]), ("bound", 3, twin))

    def test_random_tables(self):
        source = random.Random(82)
        for _ in range(40):
            for rows in CLASSES:
                self.check_paper(random_table(source), rows)

    def test_the_largest_tables(self):
        source = random.Random(83)
        for rows in CLASSES:
            paper = self.check_paper(shuffled(source, RANKED, 6), rows)
            self.assertEqual(paper[0], "free")
            self.assertGreater(len(paper[1]), 30)
            self.check_paper(one_entry_changed(source, shuffled(source, RANKED, 6)), rows)

    def test_rows_with_a_piece_again(self):
        """What is free of twice reads rows with a piece put in again alike."""
        source = random.Random(84)
        for table in (FIRST, RANKED, told_table("cover"), shuffled(source, told_table("ends"), 3)):
            for _ in range(40):
                row = random_row(source, most=5, most_end=4)
                read = {tuple(value_read(table, other, place) for place in range(4)) for other in self.doubled(row)}
                self.assertEqual(len(read), 1)

    def doubled(self, row):
        """The row, and the rows with one piece put in again."""
        return [row] + [row[:j] + (row[k],) + row[j:] for j in range(1, len(row) + 1) for k in range(j)]


class TwiceHolds(unittest.TestCase):
    def test_parts_changed(self):
        source = random.Random(85)
        found = [0, 0]
        for rows in CLASSES:
            for table in (FIRST, LAST, VOTE, told_table("least"), shuffled(source, RANKED, 2)):
                if rows == "all" and len(table) > 1:
                    continue
                needed = plain_needed(table, rows)
                paper = find_twice(table, rows=rows)
                for value in [paper, *some_changed(source, paper, many=150)]:
                    expected = plain_twice_holds(table, value, rows, needed)
                    found[expected] += 1
                    self.assertIs(twice_holds(table, value, rows=rows), expected, (value, rows))
        self.assertGreater(min(found), 30, found)

    def test_closed_sets(self):
        ranks = ((0, 0), (0, 1), (1, 0))
        every = tuple(((0, 0), begins, ends, ()) for begins in ranks for ends in ranks)
        for rows in CLASSES:
            for table in (FIRST, RANKED):
                self.assertIs(twice_holds(table, find_twice(table, rows=rows), rows=rows), True)
            self.assertIs(twice_holds(FIRST, ("free", every), rows=rows), True)
            self.assertIs(twice_holds(FIRST, ("free", every[1:]), rows=rows), False)
            self.assertIs(twice_holds(FIRST, ("free", every[::-1]), rows=rows), False)
            self.assertIs(twice_holds(LAST, ("free", every), rows=rows), False)
            self.assertIs(twice_holds(LAST, ("free", every[:1]), rows=rows), False)
        # Closed, but a piece that comes again leads into another state.
        quiet = ((*(("old", 1),) * 27,), (*(("old", 1),) * 27,))
        diagonal = tuple(((state, state), (0, 0), (0, 0), ()) for state in range(2))
        self.assertIs(twice_holds(quiet, ("free", diagonal)), False)
        self.assertIs(twice_holds(quiet, ("free", (diagonal[0], ((0, 1), (0, 0), (0, 0), ()), diagonal[1]))), True)

    def test_rows(self):
        one, two = (0, (5,), False), (0, (6,), False)
        row = (one, two)
        for value, expected in (
                (("bound", row, 0, 2, 0), True), (("bound", row, 0, 1, 0), False), (("bound", row, 1, 2, 0), False),
                (("bound", row, 0, 3, 0), False), (("bound", row, 0, 0, 0), False), (("bound", row, 1, 1, 0), False),
                (("bound", row, -1, 2, 0), False), (("bound", row, False, 2, 0), False), (("bound", row, 0, 2, 1), False),
                (("bound", row, 0, 2, -1), False), (("bound", row, 0, 2, False), False), (("bound", row, 2, 3, 0), False),
                (("bound", list(row), 0, 2, 0), False), (("bound", (), 0, 0, 0), False), (("free", row, 0, 2, 0), False),
                (("bound", row, 0, 2), False), (("bound", (*row, (0, (None,), True)), 0, 2, 0), True),
                (("bound", (*row, (0, (None,), True)), 0, 3, 0), True), (("bound", row, 0, "2", 0), False)):
            self.assertIs(twice_holds(LAST, value), expected, value)
        long = (0, (6, 6), False)
        for rows, inside in (("all", True), ("nested", False), ("stairs", False)):
            self.assertIs(twice_holds(LAST, ("bound", (one, long), 0, 2, 0), rows=rows), inside)

    def test_the_longest_row(self):
        row = ((0, (5,), False),) + ((0, (6,), False),) * 1999
        self.assertIs(twice_holds(LAST, ("bound", row, 0, 2000, 0)), True)
        self.assertIs(twice_holds(LAST, ("bound", row, 0, 1999, 0)), False)
        self.assertIs(twice_holds(LAST, ("bound", row + row[:1], 0, 2000, 0)), False)

    def test_other_values(self):
        for rows in CLASSES:
            for value in (*any_values(), ("free",), ("free", ()), ("bound", (), 0, 1), ("bound", (), 0, 1, 0)):
                self.assertIs(twice_holds(RANKED, value, rows=rows), False)
                self.assertIs(twice_holds(RANKED, ("free", value), rows=rows), False)
                self.assertIs(twice_holds(RANKED, ("free", (value,)), rows=rows), False)
                self.assertIs(twice_holds(LAST, ("bound", value, 0, 1, 0), rows=rows), False)


class Readers(unittest.TestCase):
    def test_point_15(self):
        """With the mark "last" no reader is free of twice; a late one with another mark is just if its table is."""
        source = random.Random(86)
        for table in (FIRST, RANKED, VOTE, LAST):
            bound = {(mark, when): False for mark in MARKS for when in ("late", "early")}
            for _ in range(400):
                row = random_row(source, most=4, most_end=2, values=2)
                k = source.randrange(len(row)) if row else 0
                j = source.randint(k + 1, len(row)) if row else 0
                other = row[:j] + row[k:k + 1] + row[j:]
                for mark, when in bound:
                    reader = Reader(table, mark=mark, when=when)
                    bound[mark, when] = bound[mark, when] or reader(row) != reader(other)
            free = find_twice(table)[0] == "free"
            for mark, when in bound:
                if mark == "last" and when == "late":
                    self.assertIs(bound[mark, when], True)
                if mark != "last" and when == "late":
                    self.assertIs(bound[mark, when], not free)


class Arguments(unittest.TestCase):
    def test_wrong_classes(self):
        for value in (*any_values(), "begins", "ends", "All", ("all",)):
            for call in (lambda: find_twice(FIRST, rows=value), lambda: twice_holds(FIRST, None, rows=value)):
                with self.assertRaises(BadRows) as caught:
                    call()
                self.assertIs(caught.exception.rows, value)

    def test_arguments_are_not_changed(self):
        table = other_form(VOTE)
        kept = deepcopy(table)
        for rows in CLASSES:
            self.assertEqual(find_twice(table, rows=rows), find_twice(table, rows=rows))
        self.assertEqual(table, kept)


if __name__ == "__main__":
    unittest.main()
