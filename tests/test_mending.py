"""Promise 23: tables that come together for good."""

import random
import time
import unittest
from copy import deepcopy
from itertools import product

from fragweave.alike import are_alike
from fragweave.mending import mend_numbers, mends
from fragweave.merging import merged
from fragweave.tables import entry_of, told_table
from tests.helpers import NAMES, random_table, sign_of
from tests.plain import (many_tables, one_entry_changed, other_form, plain_ranks, plain_step, pieces_over, rows_over, shuffled,
                         span_of, table_of)

FIRST = told_table("first")
LAST = told_table("last")
VOTE = told_table("vote")
MOST = told_table("most")
FIRST_PAIR = ((0, 0), (0, 0), (0, 0), (0, 0))


def pair_behind(tables, pair, new):
    """The pair type behind a piece at places among the ranks: 2 * rank + 1 is at the rank."""
    states, *ranks = pair
    owners, following = [], []
    for table, state, *own in zip(tables, states, *ranks):
        own = [2 * rank + 1 for rank in own]
        who, after = entry_of(table, state, *[sign_of(one, other) for one, other in zip(new, own)])
        owners.append(new if who == "new" else own)
        following.append(after)
    return (tuple(following), *[plain_ranks(numbers) for numbers in zip(*owners)])


def plain_graph(tables):
    """A dict from each pair type that comes about to the set of those behind it."""
    graph, left = {}, [FIRST_PAIR]
    while left:
        pair = left.pop()
        if pair not in graph:
            graph[pair] = {pair_behind(tables, pair, new) for new in product(*[range(2 * max(ranks) + 3) for ranks in pair[1:]])}
            left.extend(graph[pair])
    return graph


def plain_numbers(tables):
    """mend_numbers by its words: what is good is what leads to good ones alone, and then it is asked what leads to it."""
    graph = plain_graph(tables)
    good = {pair for pair in graph if pair[3] == (0, 0)}
    while any(graph[pair] - good for pair in good):
        good = {pair for pair in good if graph[pair] <= good}
    numbers = {pair: 0 for pair in good}
    layer, count = good, 0
    while layer:
        count += 1
        layer = {pair for pair in graph if pair not in numbers and not graph[pair].isdisjoint(layer)}
        numbers.update((pair, count) for pair in layer)
    numbers.update((pair, None) for pair in graph if pair not in numbers)
    return tuple(sorted(numbers.items()))


def then_last(many):
    """The table that is always old for so many pieces, then always new."""
    return table_of(*[{at: f"o{state + 1}" for at in range(27)} for state in range(many)], {at: f"n{many}" for at in range(27)})


class MendNumbers(unittest.TestCase):
    def check_numbers(self, one, other):
        found = mend_numbers(one, other)
        self.assertEqual(found, plain_numbers((one, other)))
        self.assertEqual(mend_numbers(deepcopy(one), deepcopy(other)), found)
        greatest = None if any(number is None for _, number in found) else max(number for _, number in found)
        self.assertEqual(mends(one, other), greatest)
        turned = tuple(sorted((tuple(part[::-1] for part in pair), number) for pair, number in found))
        self.assertEqual(mend_numbers(other, one), turned)
        return dict(found)

    def test_told_tables(self):
        for number, one in enumerate(NAMES):
            for other in NAMES[number:]:
                self.check_numbers(told_table(one), told_table(other))

    def test_drawn_tables(self):
        source = random.Random(23)
        small = [table for table in many_tables(source, 12) if len(table) <= 3]
        found = []
        for _ in range(25):
            one = source.choice(small)
            other = source.choice([source.choice(small), one_entry_changed(source, one), shuffled(source, told_table("vote"), 2)])
            found.append(set(self.check_numbers(one, other).values()))
        self.assertTrue(all(any(number in numbers for numbers in found) for number in (None, 0, 1)))

    def test_numbers_above_one(self):
        source = random.Random(24)
        greatest = set()
        for _ in range(40):
            end = source.choice([{}, {at: "n3" for at in range(27)}])
            chains = [table_of(*[{source.randrange(27): f"{source.choice('on')}{state + 1}" for _ in range(2)} for state in range(3)], end)
                      for _ in range(2)]
            greatest |= set(dict(mend_numbers(*chains)).values())
        self.assertLessEqual({0, 1, 2, 3}, greatest)
        one = table_of({0: "n1"}, {0: "o2"}, {})
        self.assertLessEqual({None, 0}, set(self.check_numbers(one, table_of({0: "o1"}, {0: "n2"}, {})).values()))

    def test_largest_tables(self):
        source = random.Random(25)
        for one, other in ((random_table(source, states=6), random_table(source, states=6)), (then_last(5), then_last(4))):
            self.check_numbers(one, other)

    def test_tables_that_are_alike(self):
        source = random.Random(26)
        for table in [told_table(name) for name in NAMES] + [random_table(source, states=2) for _ in range(3)]:
            for other in (table, other_form(table), merged(table)):
                self.assertTrue(are_alike(table, other))
                self.assertEqual(set(dict(mend_numbers(table, other)).values()), {0})
                self.assertEqual(mends(table, other), 0)

    def test_tables_that_are_not_alike_read_unlike_values_first(self):
        source = random.Random(27)
        for one, other in [(source.choice(many_tables(source, 2)), source.choice(many_tables(source, 2))) for _ in range(15)]:
            if len(one) <= 3 and len(other) <= 3:
                self.assertEqual(dict(mend_numbers(one, other))[FIRST_PAIR] == 0, are_alike(one, other))

    def test_always_old_then_always_new(self):
        for many in range(1, 6):
            table = then_last(many)
            numbers = self.check_numbers(table, LAST)
            self.assertEqual((numbers[FIRST_PAIR], mends(table, LAST), mends(LAST, table)), (many, many, many))
            self.assertIsNone(mends(table, FIRST))
            self.assertEqual(mends(table, then_last(1)), 0 if many == 1 else many)

    def test_pair_types_come_about_in_rows(self):
        for one, other in ((FIRST, LAST), (VOTE, told_table("ranked")), (MOST, told_table("least"))):
            numbers = dict(mend_numbers(one, other))
            met = set()
            for row in rows_over(2, "all", 3, values=3):
                holdings = [None, None]
                for piece in row:
                    holdings = [plain_step(table, holding, piece, 2) for table, holding in zip((one, other), holdings)]
                spans = [span_of(owner) for owner, _ in holdings]
                met.add((tuple(state for _, state in holdings), *[plain_ranks(side) for side in zip(*spans)],
                         plain_ranks([owner[1][0] for owner, _ in holdings])))
            self.assertLessEqual(met, set(numbers))
            self.assertGreater(len(met) * 3, len(numbers))

    def test_time(self):
        source = random.Random(28)
        one, other = random_table(source, states=3), random_table(source, states=3)
        start = time.perf_counter()
        mend_numbers(one, other)
        self.assertLess(time.perf_counter() - start, 1)


class Mends(unittest.TestCase):
    def test_told_tables(self):
        for one in NAMES:
            for other in NAMES:
                self.assertEqual(mends(told_table(one), told_table(other)), 0 if one == other else None, (one, other))

    def test_both_settle_on_the_same(self):
        # Both keep what they have behind the second piece, which only the other one perhaps takes.
        once = table_of({at: "n1" if at % 3 == 0 else "o1" for at in range(27)}, {})
        self.assertIsNone(mends(FIRST, once))
        last_at_last = table_of({at: "n1" if at % 3 == 0 else "o1" for at in range(27)}, {at: "n1" for at in range(27)})
        self.assertEqual(mends(LAST, last_at_last), 1)


if __name__ == "__main__":
    unittest.main()
