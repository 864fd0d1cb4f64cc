"""Promises 13 and 15: tables and readers to which the order of the pieces does not matter."""

import random
import unittest
from copy import deepcopy
from functools import lru_cache
from itertools import permutations

from fragweave.classes import is_in
from fragweave.errors import BadRows
from fragweave.orders import find_order, order_holds
from fragweave.pieces import is_row, places_of
from fragweave.places import value_read
from fragweave.readers import Reader
from fragweave.tables import told_table
from tests.helpers import MARKS, NAMES, any_values, random_row, random_table
from tests.plain import (fits, one_entry_changed, other_form, pieces_over, plain_closed, plain_closure, plain_read,
                         plain_step, rows_over, shuffled, slow_table, some_changed, span_of, type_between)

FIRST = told_table("first")
LAST = told_table("last")
RANKED = told_table("ranked")
CLASSES = ("all", "nested", "stairs")


@lru_cache(maxsize=None)
def plain_needed(table, rows):
    """The types behind all exchanges of the last two pieces of rows, with None where unlike values are read."""
    pieces = pieces_over(2)
    needed = set()
    for one in pieces:
        for two in [piece for piece in pieces if fits([span_of(one)], span_of(piece), rows)]:
            needed.add(type_between(behind(table, None, one, two), behind(table, None, two, one)))
    for (state,), *_ in plain_closure((table,), (), rows):
        for owner in pieces:
            spans = [span_of(owner)]
            near = [piece for piece in pieces if fits(spans, span_of(piece), rows)]
            for one in near:
                for two in [piece for piece in near if fits([span_of(one)], span_of(piece), rows)]:
                    holding = (owner, state)
                    needed.add(type_between(behind(table, holding, one, two), behind(table, holding, two, one)))
    return needed


def behind(table, holding, one, two):
    """The pair (owner, state) behind two pieces."""
    return plain_step(table, plain_step(table, holding, one, 2), two, 2)


def plain_order_holds(table, value, rows, needed):
    """Whether a tuple is an order paper, by the words of the document."""
    if type(value) is not tuple:
        return False
    if len(value) == 2 and value[0] == "free":
        return plain_closed((table, table), value[1], rows) and all(start in value[1] for start in needed)
    if len(value) != 4 or value[0] != "bound" or not is_row(value[1]) or not is_row(value[2]):
        return False
    _, row, other, place = value
    if not is_in(row, rows) or not is_in(other, rows) or type(place) is not int or place < 0:
        return False
    if sorted(map(repr, row)) != sorted(map(repr, other)):
        return False
    return value_read(table, row, place) != value_read(table, other, place)


def fewest_bound(table, rows, most):
    """The fewest pieces over a place whose order matters, by a trial of all, None if more than most."""
    for count in range(1, most + 1):
        read = {}
        for row in rows_over(2, rows, count):
            if len(row) == count and read.setdefault(tuple(sorted(row)), plain_read(table, row, 2)) != plain_read(table, row, 2):
                return count
    return None


class FindOrder(unittest.TestCase):
    def check_paper(self, table, rows):
        paper = find_order(table, rows=rows)
        self.assertIs(order_holds(table, paper, rows=rows), True)
        if paper[0] == "free":
            return paper
        word, row, other, place = paper
        self.assertEqual((word, is_row(row), is_in(row, rows)), ("bound", True, True))
        self.assertEqual(sorted(row), sorted(other))
        self.assertNotEqual(plain_read(table, row, place), plain_read(table, other, place))
        self.assertTrue(all(place in places_of(piece) and not piece[2] for piece in row))
        return paper

    def test_told_tables(self):
        for name in NAMES:
            for rows in CLASSES:
                free = name in ("least", "ranked")
                paper = self.check_paper(told_table(name), rows)
                self.assertEqual(paper[0], "free" if free else "bound", (name, rows))
                if not free:
                    self.assertEqual(len(paper[1]), 2)

    def test_the_fewest_types(self):
        source = random.Random(70)
        for name in ("least", "ranked"):
            for rows in CLASSES:
                for states in (1, 2) if rows != "all" else (1,):
                    table = shuffled(source, told_table(name), states)
                    needed = plain_needed(table, rows)
                    self.assertEqual(find_order(table, rows=rows), ("free", plain_closure((table,) * 2, needed, rows)))

    def test_the_fewest_pieces(self):
        source = random.Random(71)
        found = {}
        for at in range(30):
            table = random_table(source, states=source.randint(2, 3))
            if at % 3 == 0:
                table = one_entry_changed(source, shuffled(source, RANKED, 2))
            if at % 3 == 1:
                table = (table[0][:0] + tuple(("old", entry[1]) for entry in table[0]), *table[1:])
            rows = ("nested", "stairs", "all")[at // 3 % 3]
            paper = self.check_paper(table, rows)
            most = 2 if rows == "all" else 3
            fewest = len(paper[1]) if paper[0] == "bound" and len(paper[1]) <= most else None
            found[rows, fewest] = found.get((rows, fewest), 0) + 1
            self.assertEqual(fewest_bound(table, rows, most), fewest, (table, rows))
        self.assertGreater(len(found), 4, found)

    def test_three_pieces(self):
        """The first piece always stays unless the third one counts: no exchange of two pieces alone matters."""
        counter = ((("old", 1),) * 27, (("old", 2),) * 27, (("new", 2),) * 27)
        low = ((*(("old", 0),) * 26, ("old", 1)), (("old", 1),) * 27)
        self.assertEqual([len(self.check_paper(counter, rows)[1]) for rows in CLASSES], [2, 2, 2])
        self.assertEqual([self.check_paper(low, rows)[0] for rows in CLASSES], ["bound"] * 3)
        late = (RANKED[0][:13] + (("old", 1),) + RANKED[0][14:], LAST[0])
        paper = self.check_paper(late, "all")
        self.assertEqual((paper[0], len(paper[1])), ("bound", 3))
        self.assertIsNone(fewest_bound(late, "all", 2))

    def test_slow_tables(self):
        source = random.Random(77)
        for _ in range(40):
            table = slow_table(source)
            count = min(len(table), 5)
            low = (RANKED[0][:13] + (("old", 1),) + RANKED[0][14:], *[
                tuple((who, min(following + 1, count)) for who, following in state) for state in table[:count]])
            for rows in CLASSES:
                self.check_paper(table, rows)
                self.check_paper(low, rows)

    def test_random_tables(self):
        source = random.Random(72)
        for _ in range(40):
            for rows in CLASSES:
                self.check_paper(random_table(source), rows)

    def test_the_largest_tables(self):
        source = random.Random(73)
        for rows in CLASSES:
            paper = self.check_paper(shuffled(source, RANKED, 6), rows)
            self.assertEqual((paper[0], len(paper[1])), ("free", 36))
            self.check_paper(one_entry_changed(source, shuffled(source, RANKED, 6)), rows)

    def test_rows_in_other_orders(self):
        """What is free of order reads rows in all orders alike."""
        source = random.Random(74)
        for table in (RANKED, told_table("least"), shuffled(source, RANKED, 3)):
            for _ in range(30):
                row = random_row(source, most=4, most_end=4)
                read = {tuple(value_read(table, other, place) for place in range(4)) for other in permutations(row)}
                self.assertEqual(len(read), 1)


class OrderHolds(unittest.TestCase):
    def test_parts_changed(self):
        source = random.Random(75)
        found = [0, 0]
        for rows in CLASSES:
            for table in (FIRST, LAST, RANKED, told_table("least"), shuffled(source, RANKED, 2)):
                if rows == "all" and len(table) > 1:
                    continue
                needed = plain_needed(table, rows)
                paper = find_order(table, rows=rows)
                for value in [paper, *some_changed(source, paper, many=150)]:
                    expected = plain_order_holds(table, value, rows, needed)
                    found[expected] += 1
                    self.assertIs(order_holds(table, value, rows=rows), expected, (value, rows))
        self.assertGreater(min(found), 40, found)

    def test_closed_sets(self):
        ranks = ((0, 0), (0, 1), (1, 0))
        every = tuple(((0, 0), begins, ends, ()) for begins in ranks for ends in ranks)
        least = told_table("least")
        for rows in CLASSES:
            self.assertIs(order_holds(RANKED, find_order(RANKED, rows=rows), rows=rows), True)
            self.assertIs(order_holds(FIRST, ("free", every), rows=rows), False)
            self.assertIs(order_holds(FIRST, ("free", every[:1]), rows=rows), False)
            self.assertIs(order_holds(least, ("free", every), rows=rows), True)
            self.assertIs(order_holds(least, ("free", every[:1]), rows=rows), False)
            self.assertIs(order_holds(least, ("free", every[::-1]), rows=rows), False)
            # Each of these is closed, but not all exchanges lead into each.
            for some in (every[:3], (every[0], every[3], every[6]), every[:8], (every[0], every[4], every[8])):
                expected = plain_order_holds(least, ("free", some), rows, plain_needed(least, rows))
                self.assertIs(order_holds(least, ("free", some), rows=rows), expected)
        self.assertIs(order_holds(least, ("free", (every[0], every[4], every[8])), rows="stairs"), True)

    def test_rows(self):
        one, two = (0, (5,), False), (0, (6,), False)
        self.assertIs(order_holds(FIRST, ("bound", (one, two), (two, one), 0)), True)
        self.assertIs(order_holds(FIRST, ("bound", (one, two, (3, (None,), True)), (two, one, (3, (None,), True)), 0)), True)
        self.assertIs(order_holds(FIRST, ("bound", (one, two, (3, (None,), True)), ((3, (None,), True), two, one), 0)), True)
        for value in (
                ("bound", (one, two), (one, two), 0), ("bound", (one, two), (two, two), 0), ("bound", (one, two), (two,), 0),
                ("bound", (one,), (two,), 0), ("bound", (one, one, two), (two, one, two), 0), ("bound", (one, two), (two, one), 1),
                ("bound", (one, two), (two, (0, (5,), True)), 0), ("bound", (), (), 0), ("free", (one, two), (two, one), 0),
                ("bound", (one, two), (two, one), False), ("bound", (one, two), (two, one), -1), ("bound", (one, two), 0),
                ("bound", [one, two], (two, one), 0), ("bound", (one, two), [two, one], 0)):
            self.assertIs(order_holds(FIRST, value), False, value)
        long = (0, (6, 6), False)
        for rows, inside in (("all", True), ("nested", False), ("stairs", False)):
            self.assertIs(order_holds(FIRST, ("bound", (one, long), (long, one), 0), rows=rows), inside)

    def test_other_values(self):
        for rows in CLASSES:
            for value in (*any_values(), ("free",), ("free", ()), ("bound", (), ()), ("bound", (), (), 0)):
                self.assertIs(order_holds(RANKED, value, rows=rows), False)
                self.assertIs(order_holds(RANKED, ("free", value), rows=rows), False)
                self.assertIs(order_holds(RANKED, ("free", (value,)), rows=rows), False)
                self.assertIs(order_holds(FIRST, ("bound", value, value, 0), rows=rows), False)


class Readers(unittest.TestCase):
    def test_point_15(self):
        """Of readers: an early one is never free of order, and a late one with "first" or "last" neither."""
        source = random.Random(76)
        for table in (FIRST, RANKED, told_table("least"), told_table("vote")):
            bound = {(mark, when): False for mark in MARKS for when in ("late", "early")}
            for _ in range(400):
                row = random_row(source, most=3, most_end=2, values=2)
                other = tuple(source.sample(row, len(row)))
                for mark, when in bound:
                    reader = Reader(table, mark=mark, when=when)
                    bound[mark, when] = bound[mark, when] or reader(row) != reader(other)
            free = find_order(table)[0] == "free"
            for mark, when in bound:
                self.assertIs(bound[mark, when], not (free and when == "late" and mark in ("least", "greatest")))


class Arguments(unittest.TestCase):
    def test_wrong_classes(self):
        for value in (*any_values(), "begins", "ends", "All", ("all",)):
            for call in (lambda: find_order(FIRST, rows=value), lambda: order_holds(FIRST, None, rows=value)):
                with self.assertRaises(BadRows) as caught:
                    call()
                self.assertIs(caught.exception.rows, value)

    def test_arguments_are_not_changed(self):
        table = other_form(told_table("vote"))
        kept = deepcopy(table)
        for rows in CLASSES:
            self.assertEqual(find_order(table, rows=rows), find_order(table, rows=rows))
        self.assertEqual(table, kept)


if __name__ == "__main__":
    unittest.main()
