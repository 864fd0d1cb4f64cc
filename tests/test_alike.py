"""Promises 10 and 11: closed sets of types, and tables that are alike."""

import random
import unittest
from copy import deepcopy

from fragweave.alike import alike_holds, are_alike, find_alike
from fragweave.classes import is_in
from fragweave.errors import BadRows
from fragweave.pieces import is_row, places_of
from fragweave.places import value_read
from fragweave.tables import told_table
from tests.helpers import CLASSES, NAMES, ROW, any_values, random_table
from tests.plain import (changed, fits, one_entry_changed, other_form, pieces_over, plain_closed, plain_closure,
                         plain_step, slow_table, some_changed)

FIRST = told_table("first")
LAST = told_table("last")
BEGINS = told_table("begins")
VOTE = told_table("vote")


def fewest_unlike(one, other, rows, most):
    """The fewest pieces over a place that two tables read unlike, by a trial of all, None if more than most."""
    layer = {(None, None, ())}
    for count in range(1, most + 1):
        behind = set()
        for holding, other_holding, spans in layer:
            for piece in pieces_over(2):
                span = (piece[0], piece[0] + len(piece[1]))
                if not fits(spans, span, rows):
                    continue
                owners = plain_step(one, holding, piece, 2), plain_step(other, other_holding, piece, 2)
                if owners[0][0][1][0] != owners[1][0][1][0]:
                    return count
                behind.add((*owners, () if rows == "all" else tuple(sorted({*spans, span}))))
        layer = behind
    return None


def eventless(source):
    """A table of six states that takes another piece only if its value is the same."""
    return tuple(
        tuple((source.choice(("old", "new")) if at % 3 == 1 else "old", source.randrange(6)) for at in range(27))
        for _ in range(6))


def plain_alike_holds(one, other, value, rows):
    """Whether a tuple is an alike paper, by the words of the document."""
    if type(value) is not tuple:
        return False
    if len(value) == 2 and value[0] == "alike":
        return plain_closed((one, other), value[1], rows)
    if len(value) != 3 or value[0] != "unlike" or not is_row(value[1]) or not is_in(value[1], rows):
        return False
    if type(value[2]) is not int or value[2] < 0:
        return False
    return value_read(one, value[1], value[2]) != value_read(other, value[1], value[2])


class FindAlike(unittest.TestCase):
    def check_paper(self, one, other, rows):
        paper = find_alike(one, other, rows=rows)
        self.assertIs(alike_holds(one, other, paper, rows=rows), True)
        self.assertIs(are_alike(one, other, rows=rows), paper[0] == "alike")
        types = plain_closure((one, other), (), rows)
        if types is not None:
            self.assertEqual(paper, ("alike", types))
            return paper
        word, row, place = paper
        self.assertEqual((word, is_row(row), is_in(row, rows)), ("unlike", True, True))
        self.assertNotEqual(value_read(one, row, place), value_read(other, row, place))
        self.assertTrue(all(place in places_of(piece) for piece in row))
        self.assertEqual([piece[2] for piece in row], [False] * (len(row) - 1) + [True])
        return paper

    def test_told_tables(self):
        for one in NAMES:
            for other in NAMES:
                for rows in CLASSES:
                    paper = self.check_paper(told_table(one), told_table(other), rows)
                    if rows == "all":
                        self.assertIs(paper[0] == "alike", one == other)

    def test_tables_that_are_alike_in_some_classes_only(self):
        for one, other, alike in (
                ("first", "begins", ("begins",)), ("first", "ends", ()), ("begins", "cover", ("nested",)),
                ("ends", "cover", ("nested",)), ("begins", "ends", ("nested",)), ("first", "cover", ("stairs",)),
                ("first", "inner", ("stairs",)), ("last", "ends", ()), ("last", "first", ())):
            for rows in CLASSES:
                self.assertIs(are_alike(told_table(one), told_table(other), rows=rows), rows in alike, (one, other, rows))

    def test_random_tables(self):
        source = random.Random(44)
        for _ in range(40):
            for rows in CLASSES:
                self.check_paper(random_table(source), random_table(source), rows)

    def test_slow_tables(self):
        source = random.Random(52)
        counts = []
        for _ in range(40):
            table = slow_table(source)
            for other in (FIRST, slow_table(source), one_entry_changed(source, table)):
                for rows in CLASSES:
                    counts.append(len(self.check_paper(table, other, rows)[1]))
        self.assertGreater(sum(count > 4 for count in counts), 50)

    def test_other_forms(self):
        source = random.Random(45)
        for table in [told_table(name) for name in NAMES] + [random_table(source) for _ in range(10)]:
            other = other_form(table)
            self.assertNotEqual(other, table)
            for rows in CLASSES:
                for one, two in ((table, other), (other, table), (table, table)):
                    self.assertEqual(self.check_paper(one, two, rows)[0], "alike")

    def test_a_state_that_never_comes_about(self):
        other = FIRST + LAST
        for rows in CLASSES:
            self.assertEqual(find_alike(FIRST, other, rows=rows)[0], "alike")

    def test_one_entry_changed(self):
        source = random.Random(46)
        found = {"alike": 0, "unlike": 0}
        for name in NAMES * 3:
            table = other_form(told_table(name))
            other = one_entry_changed(source, table)
            for rows in CLASSES:
                found[self.check_paper(table, other, rows)[0]] += 1
        self.assertGreater(min(found.values()), 30, found)

    def test_the_fewest_pieces(self):
        source = random.Random(47)
        for rows in CLASSES:
            for at in range(14):
                one = told_table(source.choice(NAMES))
                other = one_entry_changed(source, other_form(one)) if at % 2 else told_table(source.choice(NAMES))
                paper = find_alike(one, other, rows=rows)
                fewest = len(paper[1]) if paper[0] == "unlike" else None
                most = 3 if rows == "all" else 2
                expected = fewest if fewest is not None and fewest <= most else None
                self.assertEqual(fewest_unlike(one, other, rows, most), expected, (one, other, rows))

    def test_the_largest_tables(self):
        source = random.Random(48)
        for rows in CLASSES:
            one, other = eventless(source), eventless(source)
            paper = find_alike(one, other, rows=rows)
            self.assertEqual(paper[0], "alike")
            self.assertGreater(len(paper[1]), 90)
            self.assertIs(alike_holds(one, other, paper, rows=rows), True)
            changed_one = one[:5] + ((*one[5][:13], ("new", 0), *one[5][14:26], ("new", 5)),)
            self.check_paper(changed_one, other, rows)

    def test_long_rows(self):
        """Counters of one, two, .. pieces with unlike lengths read unlike only behind many pieces."""
        source = random.Random(49)
        for lengths in ((6, 5), (6, 6), (5, 4)):
            tables = [self.counter(length, source) for length in lengths]
            paper = self.check_paper(*tables, "all")
            if paper[0] == "unlike":
                self.assertGreater(len(paper[1]), 4)

    def counter(self, length, source):
        """A table that counts pieces, and takes a piece with another value in its last state alone."""
        who = ["old"] * (length - 1) + ["new"]
        return tuple((((who[state], (state + 1) % length)),) * 27 for state in range(length))


class AlikeHolds(unittest.TestCase):
    def check(self, one, other, value, rows, found):
        expected = plain_alike_holds(one, other, value, rows)
        found[expected] += 1
        self.assertIs(alike_holds(one, other, value, rows=rows), expected, (value, rows))

    def test_parts_changed(self):
        source = random.Random(50)
        found = [0, 0]
        for rows in CLASSES:
            for one, other in (
                    (FIRST, FIRST), (FIRST, LAST), (VOTE, other_form(VOTE)), (BEGINS, FIRST), (VOTE, FIRST),
                    (told_table("ranked"), other_form(told_table("ranked")))):
                paper = find_alike(one, other, rows=rows)
                self.check(one, other, paper, rows, found)
                for value in some_changed(source, paper, many=150):
                    self.check(one, other, value, rows, found)
        self.assertGreater(min(found), 40)

    def test_greater_closed_sets(self):
        ranks = ((0, 0), (0, 1), (1, 0))
        every = tuple(((0, 0), begins, ends, ()) for begins in ranks for ends in ranks)
        for rows in ("all", "nested", "stairs"):
            self.assertIs(alike_holds(FIRST, FIRST, ("alike", every), rows=rows), True)
            self.assertIs(alike_holds(FIRST, FIRST, ("alike", every[1:]), rows=rows), False)
            self.assertIs(alike_holds(FIRST, FIRST, ("alike", every[:-1]), rows=rows), True)
            self.assertIs(alike_holds(FIRST, FIRST, ("alike", every[::-1]), rows=rows), False)
            self.assertIs(alike_holds(FIRST, FIRST, ("alike", every + every[-1:]), rows=rows), False)
        self.assertIs(alike_holds(FIRST, FIRST, ("alike", every), rows="begins"), False)
        tops = [(one, two) for one in (False, True) for two in (False, True)]
        every = tuple((*start[:3], top) for start in every for top in tops)
        for rows in ("begins", "ends"):
            self.assertIs(alike_holds(FIRST, FIRST, ("alike", every), rows=rows), True)
            self.assertIs(alike_holds(FIRST, FIRST, ("alike", every), rows="all"), False)
            self.assertIs(alike_holds(FIRST, FIRST, ("alike", every[:3] + every[4:]), rows=rows), False)

    def test_papers_of_other_classes(self):
        paper = find_alike(FIRST, BEGINS, rows="begins")
        self.assertEqual(paper[0], "alike")
        for rows in CLASSES:
            self.assertIs(alike_holds(FIRST, BEGINS, paper, rows=rows), rows == "begins")

    def test_rows(self):
        row = ((1, (6,), False), (0, (5, 5), True))
        self.assertIs(alike_holds(FIRST, LAST, ("unlike", row, 1)), True)
        self.assertIs(alike_holds(FIRST, LAST, ("unlike", row + ((9, (None,), False),), 1)), True)
        for value in (0, 2, 10 ** 59, -1, True, None, "1", (1,)):
            self.assertIs(alike_holds(FIRST, LAST, ("unlike", row, value)), False)
        for rows, inside in (("nested", False), ("stairs", False), ("begins", False), ("ends", True)):
            self.assertIs(alike_holds(FIRST, LAST, ("unlike", row, 1), rows=rows), inside)
        self.assertIs(alike_holds(FIRST, LAST, ("unlike", ROW, 1)), True)
        self.assertIs(alike_holds(FIRST, LAST, ("unlike", ROW, 0)), False)
        self.assertIs(alike_holds(FIRST, LAST, ("unlike", (), 0)), False)
        self.assertIs(alike_holds(FIRST, LAST, ("unlike", list(row), 1)), False)
        self.assertIs(alike_holds(FIRST, LAST, ("alike", row, 1)), False)

    def test_other_values(self):
        for rows in CLASSES:
            for value in (*any_values(), ("alike",), ("alike", ()), ("unlike", ()), ("unlike", (), 0), ("other", (), 0)):
                self.assertIs(alike_holds(FIRST, FIRST, value, rows=rows), False)
                for word in ("alike", "unlike"):
                    self.assertIs(alike_holds(FIRST, FIRST, (word, value), rows=rows), False)
                self.assertIs(alike_holds(FIRST, FIRST, ("unlike", value, 0), rows=rows), False)
                self.assertIs(alike_holds(FIRST, FIRST, ("alike", (value,)), rows=rows), False)


class Relations(unittest.TestCase):
    def test_point_11(self):
        source = random.Random(51)
        for _ in range(30):
            one = told_table(source.choice(NAMES))
            two, three = other_form(one), one_entry_changed(source, other_form(one))
            if are_alike(one, three):
                self.assertTrue(are_alike(two, three))
                self.assertTrue(all(are_alike(one, three, rows=rows) for rows in CLASSES))
            self.assertEqual(are_alike(one, three), are_alike(three, one))


class Arguments(unittest.TestCase):
    def test_wrong_classes(self):
        for value in (*any_values(), "All", ("all",)):
            for call in (
                    lambda: are_alike(FIRST, LAST, rows=value), lambda: find_alike(FIRST, LAST, rows=value),
                    lambda: alike_holds(FIRST, LAST, None, rows=value)):
                with self.assertRaises(BadRows) as caught:
                    call()
                self.assertIs(caught.exception.rows, value)

    def test_arguments_are_not_changed(self):
        tables = (VOTE, told_table("most"))
        kept = deepcopy(tables)
        for rows in CLASSES:
            self.assertEqual(find_alike(*tables, rows=rows), find_alike(*tables, rows=rows))
        self.assertEqual(tables, kept)
        self.assertGreater(len(changed(find_alike(*tables))), 20)


if __name__ == "__main__":
    unittest.main()
