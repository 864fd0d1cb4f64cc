"""The rules for what equality, texts, lengths, properties and operators reach, and readers compared."""

import ast
import unittest
from itertools import combinations

from fragweave.readers import Reader
from fragweave.tables import told_table
from fragweave.types import ranked
from tests.helpers import MARKS, NAMES
from tests.plain import other_form, plain_ranks
from tests.reach import Reach, faults
from tests.test_language import TREES

BOX = """
from package.rows import least

class Error(ValueError):
    def __init__(self, index):
        self.index = index

class Box:
    def __init__(self, rows):
        self._rows = rows

    def __eq__(self, other):
        return least(self._rows) == least(other._rows)
"""
GOOD_ROWS = """
def least(rows):
    found = [0] * len(rows)
    for at, row in enumerate(rows):
        found[at] = lower(row)
    kept = {}
    kept.setdefault(1, []).append(2)
    return min(found)

def lower(row):
    total = 0
    total += 1
    return total + row
"""
# Each of these in the place of the row that adds 1 breaks the rule.
BAD_ROWS = (
    "total = [row].index(row)", "total = row()", "step = row\n    total = step(1)", "total = row[0]()", "row.append(1)",
    "row[0] = 1", "del row[0]", "row.rows = 1", "row += total", "total = sorted([row], key=lower)",
    "other = row\n    other.extend([1])", "made = []\n    made = row\n    made.append(1)", "yield 1",
    "total = (lambda: 1)()", "row.setdefault(1, []).append(2)", "total = max(map(abs, row))",
    "total = [step(1) for step in row]", "rows = [row]\n    for part in rows:\n        part.append(1)")


class Reached(unittest.TestCase):
    def test_the_package_keeps_the_rule(self):
        self.assertEqual(faults(TREES), [])

    def test_what_is_reached(self):
        reached = Reach(TREES).reached
        for key in (("readers", "Reader", "__eq__"), ("alike", None, "are_alike"), ("types", None, "ranked"),
                    ("readertexts", None, "entry_text"), ("reading", "Reading", "told"), ("places", None, "compared"),
                    ("rules", "Rule", "__init__"), ("making", None, "mirrored"), ("tables", None, "entry_of"),
                    ("reading", None, "first_covers"), ("houses", "House", "pieces_of"), ("reading", None, "few_holds")):
            self.assertIn(key, reached)

    def check_faults(self, rows, *, wanted):
        trees = {"boxes": ast.parse(BOX), "rows": ast.parse(rows)}
        self.assertEqual(len(faults(trees)) > 0, wanted, rows)

    def test_faults_are_found(self):
        self.check_faults(GOOD_ROWS, wanted=False)
        for line in BAD_ROWS:
            self.check_faults(GOOD_ROWS.replace("total += 1", line), wanted=True)

    def test_what_is_not_reached_may_break_it(self):
        self.check_faults(GOOD_ROWS + "\ndef other(step):\n    return step.index(1)\n", wanted=False)

    def test_attributes_and_made_objects(self):
        for line, wanted in (
                ("return self._rows.index(1)", True), ("self._rows = other\n        return True", True),
                ("return Box(self._rows)._rows == other._rows", False), ("return self._rows(1)", True),
                ("return [part(1) for part in self._rows] == other", True)):
            box = BOX.replace("return least(self._rows) == least(other._rows)", line)
            self.assertEqual(len(faults({"boxes": ast.parse(box), "rows": ast.parse(GOOD_ROWS)})) > 0, wanted, line)


class Ranked(unittest.TestCase):
    def test_ranks(self):
        numbers = [(a, b, c) for a in range(3) for b in range(3) for c in range(3)]
        numbers += [(), (7,), (5, 5), (-3, 10 ** 60, -3), tuple(range(20, 0, -1))]
        for some in numbers:
            self.assertEqual(ranked(some), plain_ranks(some))


class ReadersCompared(unittest.TestCase):
    def test_each_told_table_with_itself_in_another_form(self):
        for name in NAMES:
            for mark in MARKS:
                one = Reader(told_table(name), mark=mark)
                self.assertEqual(one, Reader(other_form(told_table(name)), mark=mark))
                self.assertEqual(one == Reader(told_table(name), mark=mark, when="early"), (name, mark) == ("first", "first"))

    def test_all_told_tables_are_unlike(self):
        for one, other in combinations(NAMES, 2):
            self.assertNotEqual(Reader(told_table(one)), Reader(told_table(other)))
            self.assertNotEqual(Reader(told_table(other)), Reader(told_table(one)))


if __name__ == "__main__":
    unittest.main()
