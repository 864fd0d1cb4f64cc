"""Promise 22: states that are alike, and tables with as few states as can be."""

import random
import unittest
from copy import deepcopy
from itertools import combinations

from fragweave.alike import are_alike
from fragweave.merging import alike_states, merged, trimmed
from fragweave.tables import told_table
from tests.helpers import NAMES, random_table
from tests.plain import (apart_table, many_tables, one_entry_changed, other_form, plain_letters, plain_next, plain_reached,
                         shuffled)

FIRST = told_table("first")
LAST = told_table("last")
VOTE = told_table("vote")
MOST = told_table("most")


def plain_alike(table, state, other):
    """Whether two states are alike, by a search over the types behind them."""
    start = ((state, other), (0, 0), (0, 0), ())
    reached, left = {start}, [start]
    while left:
        here = left.pop()
        for letter in plain_letters(here, "all"):
            behind = plain_next((table, table), here, letter, "all")
            if behind is None:
                return False
            if behind not in reached:
                reached.add(behind)
                left.append(behind)
    return True


def plain_groups(table):
    """alike_states by its words."""
    groups = []
    for state in sorted(plain_reached(table)):
        for group in groups:
            if plain_alike(table, group[0], state):
                group.append(state)
                break
        else:
            groups.append([state])
    return tuple(tuple(group) for group in groups)


def plain_order(table, start=0):
    """The states that come of a state, in the order in which they are found."""
    order = [start]
    for state in order:
        order.extend(dict.fromkeys(following for _, following in table[state] if following not in order))
    return order


def plain_numbered(table, order):
    """The table with its states in this order."""
    return tuple(tuple((who, order.index(following)) for who, following in table[state]) for state in order)


def plain_merged(table):
    """merged by its words."""
    least = {state: group[0] for group in plain_groups(table) for state in group}
    whole = tuple(tuple((who, least.get(following, following)) for who, following in entries) for entries in table)
    return plain_numbered(whole, plain_order(whole))


def in_order(table, order):
    """The table whose state k is the state order[k]."""
    return plain_numbered(table, list(order))


def split_states(source, table):
    """The table with states doubled up to six; what leads to one of two leads to any of both."""
    states = [list(entries) for entries in table]
    same = [[state] for state in range(len(table))]
    while len(states) < 6:
        group = source.choice(same)
        group.append(len(states))
        states.append(states[group[0]])
    of = {state: group for group in same for state in group}
    return tuple(tuple((who, source.choice(of[following])) for who, following in entries) for entries in states)


class AlikeStates(unittest.TestCase):
    def test_told_tables(self):
        for name in NAMES:
            table = told_table(name)
            self.assertEqual(alike_states(table), tuple((state,) for state in range(len(table))))

    def test_against_a_search(self):
        source = random.Random(22)
        tables = many_tables(source, 10) + [split_states(source, told_table(source.choice(NAMES))) for _ in range(30)]
        tables += [split_states(source, random_table(source, states=2)) for _ in range(10)]
        sizes = []
        for table in tables:
            groups = alike_states(table)
            self.assertEqual(groups, plain_groups(table))
            self.assertEqual(alike_states(deepcopy(table)), groups)
            sizes.append((len(groups), sum(map(len, groups)), len(table)))
        self.assertTrue(any(few < most for few, most, _ in sizes) and any(most < whole for _, most, whole in sizes))

    def test_new_owners_with_equal_values(self):
        for at in (0, 1, 2):
            states = tuple(tuple(("new" if number % 3 == at else "old", 1 - state) for number in range(27)) for state in (0, 1))
            self.assertEqual(alike_states(states), ((0, 1),))
            mixed = (states[0], tuple(("old", following) for _, following in states[1]))
            self.assertEqual(alike_states(mixed), ((0, 1),) if at == 1 else ((0,), (1,)))

    def test_states_that_never_come_about(self):
        self.assertEqual(alike_states((*FIRST, *LAST)), ((0,),))
        self.assertEqual(alike_states((FIRST[0], FIRST[0])), ((0,),))
        self.assertEqual(alike_states(((("old", 1),) * 27, FIRST[0])), ((0, 1),))

    def test_all_six_alike(self):
        ring = tuple((("old", (state + 1) % 6),) * 27 for state in range(6))
        self.assertEqual(alike_states(ring), (tuple(range(6)),))
        self.assertEqual(merged(ring), FIRST)


class Trimmed(unittest.TestCase):
    def test_the_states_in_their_order(self):
        source = random.Random(23)
        for table in many_tables(source, 40):
            found = trimmed(table)
            self.assertEqual(found, plain_numbered(table, plain_order(table)))
            self.assertEqual(len(found), len(plain_reached(table)))
            self.assertEqual(trimmed(found), found)
            self.assertTrue(are_alike(table, found))

    def test_an_order_by_hand(self):
        table = (FIRST[0], (("old", 3),) * 27, (("new", 1),) * 27, (("old", 4), ("new", 2)) * 13 + (("old", 0),), (("new", 5),) * 27, FIRST[0])
        table = ((("old", 3),) * 26 + (("new", 1),), *table[1:])
        self.assertEqual([entries[:3] for entries in trimmed(table)], [
            (("old", 1),) * 3, (("old", 3), ("new", 4), ("old", 3)), (("old", 1),) * 3, (("new", 5),) * 3, (("new", 2),) * 3,
            (("old", 0),) * 3])

    def test_another_order_of_states_is_trimmed_alike(self):
        source = random.Random(24)
        for table in many_tables(source, 15):
            order = [0, *source.sample(range(1, len(table)), len(table) - 1)]
            self.assertEqual(trimmed(in_order(table, order)), trimmed(table))


class Merged(unittest.TestCase):
    def check_merged(self, table):
        found = merged(table)
        self.assertEqual(found, plain_merged(table))
        self.assertEqual(len(found), len(alike_states(table)))
        self.assertTrue(are_alike(found, table))
        self.assertEqual(alike_states(found), tuple((state,) for state in range(len(found))))
        self.assertEqual(merged(found), found)
        self.assertEqual(merged(deepcopy(table)), found)
        return found

    def test_told_tables(self):
        for name in NAMES:
            self.assertEqual(self.check_merged(told_table(name)), trimmed(told_table(name)))
            self.assertEqual(self.check_merged(other_form(told_table(name))), trimmed(told_table(name)))

    def test_drawn_tables(self):
        source = random.Random(25)
        sizes = [(len(self.check_merged(table)), len(table)) for table in many_tables(source, 10)]
        self.assertGreater(sum(few < many for few, many in sizes), 15)

    def test_doubled_states(self):
        source = random.Random(26)
        for _ in range(25):
            table = source.choice([told_table(source.choice(NAMES)), random_table(source, states=source.randint(1, 3))])
            doubled = split_states(source, table)
            self.assertEqual(len(self.check_merged(doubled)), len(merged(table)))

    def test_tables_that_are_alike_have_as_few_states(self):
        source = random.Random(27)
        tables = [apart_table(source) for _ in range(8)] + [shuffled(source, told_table(name), 3) for name in NAMES[:8]]
        tables += [one_entry_changed(source, split_states(source, VOTE)) for _ in range(8)] + [split_states(source, MOST)]
        for one, other in combinations(tables, 2):
            if are_alike(one, other):
                self.assertEqual(len(merged(one)), len(merged(other)))

    def test_entries_are_those_of_the_least_state(self):
        low = tuple(("new" if at % 3 == 1 else "old", 1) for at in range(27))
        self.assertEqual(merged((low, FIRST[0])), (tuple((who, 0) for who, _ in low),))
        self.assertEqual(merged(((("old", 1),) * 27, tuple((who, 0) for who, _ in low))), FIRST)


if __name__ == "__main__":
    unittest.main()
