"""Promise 20: what can still change at a place."""

import random
import unittest
from copy import deepcopy

from fragweave.settled import distances, settled, sure_at
from fragweave.tables import told_table
from tests.helpers import NAMES, ROW, plain_steps, plain_value, random_row, random_table
from tests.plain import many_tables, pieces_over, plain_entries, plain_read, plain_reached, plain_step, table_of

FIRST = told_table("first")
LAST = told_table("last")
VOTE = told_table("vote")
MOST = told_table("most")


def plain_distance(table, state):
    """The fewest further pieces that change the value, by a search piece by piece; None if there are none."""
    layer, seen, count = {state}, {state}, 0
    while layer:
        count += 1
        behind = set()
        for here in layer:
            for _, _, value, who, following in plain_entries(table, here):
                if who == "new" and value != "=":
                    return count
                behind.add(following)
        layer = behind - seen
        seen |= behind
    return None


def trial_distance(table, holding, most):
    """The same for a holding at the place 3 by a trial of all pieces around it, None if more than most are needed."""
    layer = [holding]
    for count in range(1, most + 1):
        behind = [plain_step(table, one, piece, 3) for one in layer for piece in pieces_over(3)]
        if any(plain_value(one[0], 3) != plain_value(holding[0], 3) for one in behind):
            return count
        layer = behind
    return None


def plain_sure(table, row, place):
    """sure_at by its words: how many pieces have come when the state is settled first."""
    for count in range(1, len(row) + 1):
        steps = plain_steps(table, row[:count], place)
        if steps and plain_distance(table, steps[-1][2]) is None:
            return count
    return None


def slow_chain(length):
    """A table that takes another value only behind so many pieces, less one, that it did not take."""
    return table_of(*[{at: f"o{state + 1}" for at in range(27)} for state in range(length - 1)], {0: "n0"})


class Distances(unittest.TestCase):
    def test_told_tables(self):
        told = {name: distances(told_table(name)) for name in NAMES}
        self.assertEqual(told, {
            "first": (None,), "last": (1,), "begins": (1,), "ends": (1,), "cover": (1,), "inner": (1,), "least": (1,),
            "ranked": (1,), "vote": (2, 1), "most": (2, None, 1)})

    def test_against_a_search(self):
        source = random.Random(20)
        for table in many_tables(source, 60):
            found = distances(table)
            self.assertEqual(found, tuple(plain_distance(table, state) for state in range(len(table))))
            self.assertEqual(settled(table), tuple(state for state, number in enumerate(found) if number is None))
            self.assertEqual(distances(deepcopy(table)), found)

    def test_a_new_owner_with_an_equal_value_is_no_change(self):
        equal = (tuple(("new", 0) if at % 3 == 1 else ("old", 0) for at in range(27)),)
        self.assertEqual((distances(equal), settled(equal)), ((None,), (0,)))
        for at in range(27):
            entries = equal[0][:at] + (("new", 0),) + equal[0][at + 1:]
            self.assertEqual(distances((entries,)), (None if at % 3 == 1 else 1,))

    def test_far_changes(self):
        for length in range(1, 7):
            self.assertEqual(distances(slow_chain(length)), tuple(range(length, 0, -1)))

    def test_states_that_do_not_come_about(self):
        table = (FIRST[0], LAST[0], (("old", 1),) * 27)
        self.assertEqual((distances(table), settled(table)), ((None, 1, 2), (0,)))

    def test_rows_of_all_further_pieces(self):
        source = random.Random(21)
        tables = [told_table(name) for name in NAMES] + [random_table(source) for _ in range(3)]
        for table in tables:
            for state in range(len(table)):
                number = distances(table)[state]
                if number is None or number <= 2:
                    holding = ((2, (1, 1, 1), False), state)
                    self.assertEqual(trial_distance(table, holding, 2), number)

    def test_settled_values_do_not_change(self):
        source = random.Random(22)
        for table in many_tables(source, 10):
            for _ in range(20):
                row = random_row(source, most=9)
                place = source.randrange(6)
                sure = sure_at(table, row, place)
                if sure is not None:
                    self.assertEqual({plain_read(table, row[:count], place) for count in range(sure, len(row) + 1)},
                                     {plain_read(table, row[:sure], place)})


class SureAt(unittest.TestCase):
    def test_against_its_words(self):
        source = random.Random(23)
        for table in many_tables(source, 8):
            for _ in range(10):
                row = random_row(source, most=8, most_end=4)
                for place in range(5):
                    self.assertEqual(sure_at(table, row, place), plain_sure(table, row, place))

    def test_pieces_beside_the_place_count(self):
        row = ((5, (1,), False), (0, (None, 2), False), (0, (3, None), False), (0, (4, 4), False))
        self.assertEqual([sure_at(FIRST, row, place) for place in (0, 1, 2, 5, 6)], [3, 2, None, 1, None])
        self.assertEqual([sure_at(LAST, row, place) for place in (0, 1, 5)], [None] * 3)

    def test_behind_several_pieces(self):
        row = ((0, (5,), False), (1, (5,), False), (0, (6,), False), (0, (6,), False), (0, (5,), False))
        self.assertEqual([sure_at(MOST, row[:count], 0) for count in range(6)], [None, None, None, None, 4, 4])
        self.assertEqual([sure_at(MOST, (row[0], row[4], row[2]), 0), sure_at(VOTE, row, 0)], [2, None])

    def test_no_piece_and_far_places(self):
        for table in (FIRST, LAST, MOST):
            self.assertIsNone(sure_at(table, (), 0))
            for place in (3, 5000, 10 ** 60):
                self.assertIsNone(sure_at(table, ROW, place))
        self.assertEqual(sure_at(FIRST, ((4999, (1,), False),), 4999), 1)

    def test_a_long_row(self):
        row = ((1, (7,), False),) * 1999 + ((0, (7,), False),)
        self.assertEqual((sure_at(FIRST, row, 0), sure_at(FIRST, row, 1), sure_at(VOTE, row, 1)), (2000, 1, None))

    def test_what_comes_about_is_not_asked(self):
        source = random.Random(24)
        for table in many_tables(source, 4):
            reached = plain_reached(table)
            self.assertEqual([distances(table)[state] for state in reached],
                             [plain_distance(table, state) for state in reached])


if __name__ == "__main__":
    unittest.main()
