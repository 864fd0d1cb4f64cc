"""Promise 26: tables as objects."""

import random
import unittest
from copy import deepcopy
from itertools import product

from fragweave.alike import are_alike
from fragweave.bounds import PIECES
from fragweave.errors import BadCount, BadTable, NoEntry, TooMany
from fragweave.houses import House
from fragweave.making import mirrored, mirrored_row, then_table
from fragweave.pieces import is_row
from fragweave.readers import Reader
from fragweave.readertexts import parse_table, table_text
from fragweave.rules import Rule
from fragweave.tables import entry_of, table_error, told_table
from tests.helpers import NAMES, ROW, SIGNS, any_values, plain_value, random_row, random_table
from tests.plain import changed, many_tables, one_entry_changed, other_form, plain_read, shuffled

FIRST = told_table("first")
LAST = told_table("last")
BEGINS = told_table("begins")
VOTE = told_table("vote")


class Made(unittest.TestCase):
    def test_tables(self):
        source = random.Random(26)
        for table in many_tables(source, 5):
            rule = Rule(table)
            self.assertIs(rule.table, table)
            self.assertEqual((len(rule), str(rule)), (len(table), table_text(table)))
            self.assertEqual(parse_table(str(rule)), table)

    def test_values_that_are_no_tables(self):
        for value in [*any_values(), *changed(VOTE)[::7], (FIRST[0], FIRST), [FIRST[0]]]:
            error = table_error(value)
            if error is None:
                self.assertEqual(Rule(value).table, value)
                continue
            with self.assertRaises(BadTable) as caught:
                Rule(value)
            self.assertEqual(caught.exception.error, error)

    def test_a_rule_does_not_change(self):
        rule = Rule(FIRST)
        for name in ("table",):
            with self.assertRaises(AttributeError):
                setattr(rule, name, LAST)
        self.assertEqual(rule.table, FIRST)


class Called(unittest.TestCase):
    def test_the_value_that_is_read(self):
        source = random.Random(27)
        for table in many_tables(source, 5):
            row = random_row(source)
            rule = Rule(table)
            for place in (*range(7), 10 ** 60):
                self.assertEqual(rule(row, place), plain_read(table, row, place))
            self.assertIsNone(rule((), 0))


class Entries(unittest.TestCase):
    def test_each_entry(self):
        source = random.Random(28)
        for table in many_tables(source, 3):
            rule = Rule(table)
            for state, signs in product(range(len(table)), product(SIGNS, SIGNS, SIGNS)):
                self.assertEqual(rule[(state, *signs)], entry_of(table, state, *signs))
            self.assertEqual(rule[0, "<", "=", ">"], table[0][5])

    def test_other_keys(self):
        rule = Rule(VOTE)
        keys = [(2, "<", "<", "<"), (-1, "<", "<", "<"), (True, "<", "<", "<"), (False, "=", "=", "="), (0, "<", "<"), (0,), 0, 1,
                (0, "<", "<", "<", "<"), [0, "<", "<", "<"], (0, "<", "<", 0), (0, "", "<", "<"), (0, "<", None, "<"), "<",
                (0, "<=", "<", "<"), ((0, "<", "<", "<"),), ("0", "<", "<", "<"), (None, "<", "<", "<"), (0, ["<"], "<", "<"),
                (10 ** 60, "=", "=", "="), (0, 1, 1, 1), slice(0, 1), rule]
        for key in [*keys, *any_values(), *changed((0, "<", "=", ">"))]:
            if isinstance(key, tuple) and len(key) == 4 and key[0].__class__ is int and key[0] in (0, 1) \
                    and all(part in SIGNS for part in key[1:]):
                self.assertEqual(rule[key], entry_of(VOTE, *key))
                continue
            with self.assertRaises(NoEntry) as caught:
                rule[key]
            self.assertIs(caught.exception.key, key)

    def test_a_loop_raises_a_type_error(self):
        for table in (FIRST, VOTE):
            for loop in (iter, list, tuple, sorted, set, lambda rule: [entry for entry in rule], lambda rule: [*rule], max):
                with self.assertRaises(TypeError):
                    loop(Rule(table))
            with self.assertRaises(TypeError):
                for _ in Rule(table):
                    self.fail()


class Rows(unittest.TestCase):
    def test_rows(self):
        source = random.Random(29)
        met = []
        for _ in range(300):
            row = random_row(source, most=5, most_end=4)
            end = max((begin + len(values) for begin, values, _ in row), default=0)
            whole = all(any(plain_value(piece, place) is not None for piece in row) for place in range(end))
            met.append(row in Rule(random_table(source, states=2)))
            self.assertIs(met[-1], whole)
        self.assertGreater(min(met.count(True), met.count(False)), 30)

    def test_by_hand(self):
        rule = Rule(FIRST)
        for row, wanted in (
                ((), True), (ROW, True), (ROW[1:], False), (((0, (None,), True),), False), (((0, (1, None), False),), False),
                (((0, (1, None), False), (1, (2,), False)), True), (((0, (5,), False),) * PIECES, True),
                (((0, (5,), False),) * (PIECES + 1), False), (((0, (5,) * 5000, False),), True), (((4999, (5,), False),), False),
                ([], False), (list(ROW), False), ((list(ROW[0]),), False), (((0, (-1,), False),), False), ("", False)):
            self.assertIs(row in rule, wanted)
            self.assertIs(row not in rule, not wanted)

    def test_any_values(self):
        for value in [*any_values(), *changed(ROW)]:
            self.assertIs(value in Rule(VOTE), is_row(value) and (value == () or None not in [
                next((item for item in [plain_value(piece, place) for piece in value] if item is not None), None)
                for place in range(max(begin + len(values) for begin, values, _ in value))]))


class MadeOfRules(unittest.TestCase):
    def test_mirrors(self):
        source = random.Random(30)
        for table in many_tables(source, 4):
            mirror = ~Rule(table)
            self.assertIsInstance(mirror, Rule)
            self.assertEqual(mirror.table, mirrored(table))
            self.assertEqual((~mirror).table, table)
            row = random_row(source)
            for place in range(6):
                self.assertEqual(mirror(mirrored_row(row, 6), 5 - place), Rule(table)(row, place))

    def test_then(self):
        source = random.Random(31)
        for _ in range(40):
            one, other = random_table(source, states=source.randint(1, 3)), told_table(source.choice(NAMES))
            for count in (1, 2, 3):
                try:
                    wanted = then_table(one, count, other)
                except TooMany:
                    with self.assertRaises(TooMany) as caught:
                        Rule(one).then(count, Rule(other))
                    self.assertEqual(caught.exception.limit, 6)
                else:
                    self.assertEqual(Rule(one).then(count, Rule(other)).table, wanted)

    def test_errors_of_then(self):
        wide = Rule(random_table(random.Random(32), states=6))
        for count in (0, True, None, "1", PIECES + 1, [1]):
            with self.assertRaises(BadCount) as caught:
                wide.then(count, wide)
            self.assertIs(caught.exception.value, count)
        for count in (2, 3, 7, PIECES):
            with self.assertRaises(TooMany):
                wide.then(count, wide)


class Equality(unittest.TestCase):
    def test_alike_tables(self):
        source = random.Random(33)
        for table in many_tables(source, 4):
            rule = Rule(table)
            for other in (Rule(deepcopy(table)), Rule(other_form(table)), ~~rule, deepcopy(rule)):
                self.assertTrue(rule == other and other == rule)
                self.assertFalse(rule != other)

    def test_other_tables(self):
        source = random.Random(34)
        for _ in range(60):
            one = source.choice([told_table(source.choice(NAMES)), random_table(source, states=3), shuffled(source, LAST, 3)])
            other = source.choice([one_entry_changed(source, one), told_table(source.choice(NAMES))])
            self.assertIs(Rule(one) == Rule(other), are_alike(one, other))

    def test_equal_rules_read_alike(self):
        source = random.Random(35)
        rules = [Rule(table) for table in many_tables(source, 2)]
        rows = [random_row(source) for _ in range(20)]
        for one in rules:
            for other in rules:
                if one == other:
                    self.assertEqual([[one(row, place) for place in range(6)] for row in rows],
                                     [[other(row, place) for place in range(6)] for row in rows])

    def test_other_values(self):
        rule = Rule(FIRST)
        for value in [*any_values(), FIRST, Reader(FIRST), House(Reader(FIRST)), str(rule), 1]:
            self.assertIs(rule == value, False)
            self.assertIs(value == rule, False)
            self.assertIs(rule != value, True)


if __name__ == "__main__":
    unittest.main()
