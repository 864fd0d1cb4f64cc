"""Promise 5: tables, their entries and the told ones."""

import random
import unittest
from copy import deepcopy

from fragweave.bounds import STATES
from fragweave.errors import NoTable
from fragweave.tables import entry_of, table_error, told_table
from tests.helpers import NAMES, SIGNS, any_values, random_table

OLD = ("old", 0)
STATE = (OLD,) * 27
# Written as the document tells them, by hand: one line for each begin, in it the ends, in them the values.
TOLD = {
    "first": "ooo ooo ooo  ooo ooo ooo  ooo ooo ooo",
    "last": "nnn nnn nnn  nnn nnn nnn  nnn nnn nnn",
    "begins": "nnn nnn nnn  ooo ooo ooo  ooo ooo ooo",
    "ends": "ooo ooo nnn  ooo ooo nnn  ooo ooo nnn",
    "cover": "ooo nnn nnn  ooo ooo nnn  ooo ooo ooo",
    "inner": "ooo ooo ooo  nnn ooo ooo  nnn nnn ooo",
    "least": "noo noo noo  noo noo noo  noo noo noo",
    "ranked": "nnn nnn nnn  ooo noo nnn  ooo ooo ooo",
}


def with_entry(table, state, entry, value):
    """The table with another value in the place of an entry."""
    entries = table[state][:entry] + (value,) + table[state][entry + 1:]
    return table[:state] + (entries,) + table[state + 1:]


class TableError(unittest.TestCase):
    def test_tables(self):
        source = random.Random(7)
        for states in range(1, STATES + 1):
            for _ in range(10):
                self.assertIsNone(table_error(random_table(source, states=states)))
        for name in NAMES:
            self.assertIsNone(table_error(told_table(name)))

    def test_number_of_states(self):
        self.assertEqual(table_error(()), (None, None, "table"))
        self.assertIsNone(table_error((STATE,) * STATES))
        self.assertEqual(table_error((STATE,) * (STATES + 1)), (None, None, "table"))

    def test_number_of_entries(self):
        for many in (0, 1, 26, 28, 54):
            self.assertEqual(table_error(((OLD,) * many,)), (0, None, "state"))
            self.assertEqual(table_error((STATE, STATE, (OLD,) * many, STATE)), (2, None, "state"))

    def test_states_that_are_no_tuples(self):
        for value in (None, [OLD] * 27, "o0" * 27, {"old": 0}, 27, True):
            self.assertEqual(table_error((STATE, value)), (1, None, "state"))
            self.assertEqual(table_error((value,)), (0, None, "state"))

    def test_entries_that_are_none(self):
        wrong = (None, (), ("old",), ("old", 0, 0), ["old", 0], "o0", 0, {"old": 0}, ("new", None), ("Old", 0), ("o", 0),
                 ("", 0), (None, 0), (0, "old"), ("old", "0"), ("old", -1), ("old", 0.0), (("old",), 0), ("old", (0,)),
                 ("old", True), ("old", False), ("new", True), ("new", False), (["old"], 0), ("old", [0]))
        for value in wrong:
            for entry in (0, 13, 26):
                self.assertEqual(table_error(with_entry((STATE,) * 3, 1, entry, value)), (1, entry, "entry"), value)

    def test_next_states_at_and_beyond_the_last_one(self):
        for states in range(1, STATES + 1):
            for who in ("old", "new"):
                for state in range(states):
                    table = (STATE,) * states
                    self.assertIsNone(table_error(with_entry(table, state, 4, (who, states - 1))))
                    for following in (states, states + 1, 10 ** 59, -1):
                        wrong = with_entry(table, state, 4, (who, following))
                        self.assertEqual(table_error(wrong), (state, 4, "entry"))

    def test_the_first_error_in_order(self):
        wrong = with_entry(with_entry((STATE,) * 3, 1, 20, None), 1, 6, ("old", 3))
        self.assertEqual(table_error(wrong), (1, 6, "entry"))
        self.assertEqual(table_error(wrong[:2] + ((),)), (1, 6, "entry"))
        self.assertEqual(table_error(((),) + wrong[1:]), (0, None, "state"))
        self.assertEqual(table_error(with_entry(wrong, 0, 26, "o0")), (0, 26, "entry"))
        self.assertEqual(table_error((wrong[1],) * 7), (None, None, "table"))
        self.assertEqual(table_error(((OLD,) * 25 + (None,),)), (0, None, "state"))

    def test_any_value(self):
        for value in any_values():
            if isinstance(value, tuple) and value in [told_table(name) for name in NAMES]:
                self.assertIsNone(table_error(value))
            elif isinstance(value, tuple) and 1 <= len(value) <= STATES:
                self.assertEqual(table_error(value), (0, None, "state"))
            else:
                self.assertEqual(table_error(value), (None, None, "table"))
            self.assertEqual(table_error((STATE, value)), (1, None, "state"))
            self.assertEqual(table_error(with_entry((STATE,), 0, 9, value)), (0, 9, "entry"))
            self.assertEqual(table_error(with_entry((STATE,), 0, 9, (value, 0))), (0, 9, "entry"))

    def test_arguments_are_not_changed(self):
        value = [[["old", 0]] * 27]
        before = deepcopy(value)
        table_error(value)
        table_error((value,))
        table_error(((value[0][0],) * 27,))
        self.assertEqual(value, before)


class EntryOf(unittest.TestCase):
    def test_each_word(self):
        table = tuple(
            tuple((("old", "new")[(state + entry) % 2], (state * entry) % 5) for entry in range(27)) for state in range(5))
        for state in range(5):
            for b, begin in enumerate(SIGNS):
                for e, end in enumerate(SIGNS):
                    for v, value in enumerate(SIGNS):
                        entry = table[state][9 * b + 3 * e + v]
                        self.assertEqual(entry_of(table, state, begin, end, value), entry)

    def test_unlike_entries_at_unlike_words(self):
        for entry in range(27):
            table = with_entry((STATE,), 0, entry, ("new", 0))
            found = [(b, e, v) for b in SIGNS for e in SIGNS for v in SIGNS
                     if entry_of(table, 0, b, e, v) == ("new", 0)]
            self.assertEqual(found, [(SIGNS[entry // 9], SIGNS[entry // 3 % 3], SIGNS[entry % 3])])


class ToldTable(unittest.TestCase):
    def test_one_state(self):
        for name, text in TOLD.items():
            state = tuple(({"o": "old", "n": "new"}[sign], 0) for sign in text.replace(" ", ""))
            self.assertEqual(told_table(name), (state,), name)

    def test_vote(self):
        self.assertEqual(told_table("vote"), (
            (("old", 1), ("old", 0), ("old", 1)) * 9,
            (("new", 0), ("old", 0), ("new", 0)) * 9))

    def test_most(self):
        self.assertEqual(told_table("most"), (
            (("old", 2), ("old", 1), ("old", 2)) * 9,
            (("old", 1), ("old", 1), ("old", 1)) * 9,
            (("new", 1), ("old", 1), ("new", 1)) * 9))

    def test_equal_calls(self):
        for name in NAMES:
            self.assertEqual(told_table(name), told_table(name))

    def test_no_other_name(self):
        for value in (*any_values(), "First", "firsts", "first ", " first", "vote\n", "f", "mirror", "begin", "all"):
            if isinstance(value, str) and value in NAMES:
                continue
            with self.assertRaises(NoTable) as caught:
                told_table(value)
            self.assertIs(caught.exception.value, value)


if __name__ == "__main__":
    unittest.main()
