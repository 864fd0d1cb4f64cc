"""Promise 21: how often a value can change."""

import random
import unittest
from copy import deepcopy

from fragweave.changes import changes_hold, find_changes
from fragweave.pieces import is_row
from fragweave.tables import entry_of, told_table
from tests.helpers import NAMES, ROW, SIGNS, any_values, plain_steps, plain_value, random_table
from tests.plain import (changed, many_tables, plain_entries, plain_reached, rows_over, some_changed, table_of)

FIRST = told_table("first")
LAST = told_table("last")
VOTE = told_table("vote")
MOST = told_table("most")
# More pieces than a table with six states without a ring of changes needs for all its changes.
MANY = 60


def plain_most(table, state):
    """The most changes behind a state, by a count over many pieces; None if they never end."""
    most = [0] * len(table)
    for _ in range(MANY):
        most = [max(most[following] + (who == "new" and value != "=") for _, _, value, who, following
                    in plain_entries(table, here)) for here in range(len(table))]
    return None if most[state] > len(table) else most[state]


def plain_changes(table, row, place):
    """How many changes there are at a place."""
    read = [plain_value(row[owner], place) for _, owner, _ in plain_steps(table, row, place)]
    return sum(one != other for one, other in zip(read, read[1:]))


def plain_walk(table, state, steps):
    """(states, changes) along any value as a way, None if it is none."""
    if type(steps) is not tuple:
        return None
    states, count = [state], 0
    for step in steps:
        if type(step) is not tuple or len(step) != 3 or any(type(lie) is not int or lie not in (0, 1, 2) for lie in step):
            return None
        who, following = entry_of(table, states[-1], *[SIGNS[lie] for lie in step])
        count += who == "new" and step[2] != 1
        states.append(following)
    return states, count


def plain_hold(table, value):
    """Whether any value is a change paper, by the words of the document."""
    if type(value) is not tuple or not value or type(value[0]) is not str:
        return False
    if value[0] == "endless" and len(value) == 3:
        way = plain_walk(table, 0, value[1])
        ring = way and plain_walk(table, way[0][-1], value[2])
        return bool(ring) and ring[0][0] == ring[0][-1] and ring[1] > 0
    if value[0] != "most" or len(value) != 4:
        return False
    _, numbers, row, place = value
    if type(numbers) is not tuple or len(numbers) != len(table) or type(numbers[0]) is not int:
        return False
    if any(number is not None and (type(number) is not int or number < 0) for number in numbers):
        return False
    for state, number in enumerate(numbers):
        for _, _, lie, who, following in plain_entries(table, state) if number is not None else ():
            if numbers[following] is None or numbers[following] > number - (who == "new" and lie != "="):
                return False
    return is_row(row) and type(place) is int and place >= 0 and plain_changes(table, row, place) == numbers[0]


def falling_table(many):
    """A table that takes the first many values that are unlike, one state for each."""
    states = [{at: f"n{state + 1}" for at in range(27) if at % 3 != 1} for state in range(many)]
    return table_of(*states, {})


def drawn_falling_table(source):
    """A table with six states in which each change leads to a later state, at most times past some others."""
    states = [{at: f"{source.choice('oon')}{source.randint(state + 1, 5)}" for at in source.sample(range(27), source.randint(1, 5))}
              for state in range(5)]
    return table_of(*states, {})


class FindChanges(unittest.TestCase):
    def check_paper(self, table):
        paper = find_changes(table)
        most = plain_most(table, 0)
        self.assertEqual(paper[0], "endless" if most is None else "most")
        self.assertTrue(plain_hold(table, paper))
        self.assertIs(changes_hold(table, paper), True)
        self.assertEqual(find_changes(deepcopy(table)), paper)
        if most is not None:
            self.assertEqual(paper[1][0], most)
            for state in plain_reached(table):
                self.assertLessEqual(plain_most(table, state), paper[1][state])
        return paper

    def test_told_tables(self):
        words = {name: self.check_paper(told_table(name))[0] for name in NAMES}
        self.assertEqual([name for name in NAMES if words[name] == "most"], ["first", "most"])

    def test_drawn_tables(self):
        source = random.Random(21)
        words = [self.check_paper(table)[0] for table in many_tables(source, 50)]
        self.assertGreater(min(words.count("most"), words.count("endless")), 30)

    def test_all_numbers_of_changes(self):
        for many in range(6):
            paper = self.check_paper(falling_table(many))
            self.assertEqual(paper[1], tuple(range(many, -1, -1)))

    def test_the_most_changes_of_many_ways(self):
        source = random.Random(24)
        numbers = [self.check_paper(drawn_falling_table(source))[1][0] for _ in range(60)]
        self.assertLessEqual({0, 1, 2, 3}, set(numbers))
        nearest_is_last = table_of({0: "n3", 2: "n1"}, {0: "n3", 3: "n2"}, {0: "n3"}, {})
        self.assertEqual(self.check_paper(nearest_is_last)[1], (3, 2, 1, 0))

    def test_changes_behind_slow_states(self):
        table = table_of({at: "o1" for at in range(5)}, {7: "o2"}, {3: "n3"}, {4: "n4"}, {9: "o5"}, {26: "n5", 1: "n5"})
        self.assertEqual(self.check_paper(table)[0], "endless")
        table = table_of({at: "o1" for at in range(5)}, {7: "o2"}, {3: "n3"}, {4: "n4"}, {9: "o5"}, {1: "n5"})
        self.assertEqual(self.check_paper(table)[1], (1, 1, 1, 0, 0, 0))

    def test_a_ring_that_does_not_come_about(self):
        table = (FIRST[0], LAST[0][:26] + (("new", 1),))
        self.assertEqual(self.check_paper(table)[0], "most")
        self.assertIs(changes_hold(table, ("most", (0, None), (), 7)), True)

    def test_rows_of_few_pieces_have_no_more_changes(self):
        for name in ("first", "most"):
            table = told_table(name)
            most = max(plain_changes(table, row, 1) for row in rows_over(1, "all", 3, values=2))
            self.assertEqual(most, find_changes(table)[1][0])


class ChangesHold(unittest.TestCase):
    def check_hold(self, table, value):
        self.assertIs(changes_hold(table, value), bool(plain_hold(table, value)), value)

    def test_papers_with_one_part_changed(self):
        source = random.Random(22)
        tables = [told_table(name) for name in NAMES] + [falling_table(many) for many in range(6)]
        for table in tables:
            for value in changed(find_changes(table)):
                self.check_hold(table, value)
        for table in many_tables(source, 20):
            for value in some_changed(source, find_changes(table)):
                self.check_hold(table, value)

    def test_papers_of_other_tables(self):
        source = random.Random(23)
        tables = [*map(told_table, NAMES), *[random_table(source) for _ in range(5)], falling_table(2)]
        for one in tables:
            for other in tables:
                self.check_hold(one, find_changes(other))

    def test_greater_numbers(self):
        word, _, row, place = find_changes(MOST)
        for numbers, wanted in (
                ((1, 0, 1), True), ((1, 0, 10 ** 50), False), ((1, 0, None), False), ((1, 1, 1), False),
                ((1, None, 1), False), ((2, 0, 1), False), ((1, 0, 0), False), ((True, 0, 1), False), ((1, False, 1), False),
                ((1, 0, 1, 0), False), ((1, 0), False), ([1, 0, 1], False), ((None, 0, 1), False), ((1, 0, "1"), False)):
            self.assertIs(changes_hold(MOST, (word, numbers, row, place)), wanted, numbers)
        unreached = (*FIRST, LAST[0])
        for numbers, wanted in (((0, None), True), ((0, 0), False), ((0, 1), True), ((0, 9), True), ((1, None), False)):
            self.assertIs(changes_hold(unreached, ("most", numbers, (), 0)), wanted, numbers)
        looser = (FIRST[0], ((("old", 0),) * 27))
        for numbers, wanted in (((0, 0), True), ((0, 10 ** 50), True), ((0, None), True), ((1, 5), False)):
            self.assertIs(changes_hold(looser, ("most", numbers, ROW, 1)), wanted, numbers)

    def test_places(self):
        for place, wanted in ((0, True), (1, True), (5000, True), (10 ** 60 - 1, True), (-1, False), (True, False), (None, False)):
            self.assertIs(changes_hold(FIRST, ("most", (0,), ROW, place)), wanted, place)

    def test_rows(self):
        one = (0, (5,), False)
        other = (0, (6,), False)
        for row, place, wanted in (
                ((one, other, other), 0, True), ((one, other), 0, False), ((one, other, other, one), 0, True),
                ((one, other, other), 1, False), ((one, other, other, other, one, one), 0, True), ((), 0, False),
                ([one, other, other], 0, False), ((one, other, list(other)), 0, False), (None, 0, False)):
            self.assertIs(changes_hold(MOST, ("most", (1, 0, 1), row, place)), wanted, row)

    def test_ways_and_rings(self):
        up, down, same = (1, 1, 2), (1, 1, 0), (1, 1, 1)
        for way, ring, wanted in (
                ((), (up, up), True), ((), (up, down), True), ((up,), (up, down), True), ((), (up,), False),
                ((), (same,), False), ((up,), (same,), False), ((same, same), (same, up, up), True),
                ((), (), False), ((up,), (), False), ([], (up, up), False), ((), [up, up], False), ((), (up, [1, 1, 2]), False),
                ((), (up, (1, 1, 3)), False), ((), (up, (1, 1)), False), ((), (up, (1, True, 2)), False), ((), None, False)):
            self.assertIs(changes_hold(VOTE, ("endless", way, ring)), wanted, (way, ring))

    def test_any_values(self):
        for table in (FIRST, LAST, MOST):
            for value in any_values():
                self.assertIs(changes_hold(table, value), False)
                for word in ("most", "endless"):
                    for rest in ((value,), (value, value), (value, value, value)):
                        self.assertIn(changes_hold(table, (word, *rest)), (True, False))


if __name__ == "__main__":
    unittest.main()
