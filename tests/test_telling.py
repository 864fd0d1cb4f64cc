"""Promise 27: which of some tables it is."""

import random
import unittest
from copy import deepcopy
from itertools import combinations

from fragweave.alike import are_alike
from fragweave.pieces import is_row
from fragweave.tables import told_table
from fragweave.telling import apart_by, find_packet, groups_of, packet_holds
from tests.helpers import NAMES, ROW, any_values, random_row, random_table
from tests.plain import (changed, many_tables, one_entry_changed, other_form, plain_read, shuffled, slow_table, some_changed)

FIRST = told_table("first")
LAST = told_table("last")
BEGINS = told_table("begins")
VOTE = told_table("vote")


def tables_with_alike_ones(source, many):
    """So many tables, some of which are alike."""
    told = [told_table(name) for name in NAMES]
    tables = []
    while len(tables) < many:
        new = source.choice([source.choice(told), random_table(source, states=2), shuffled(source, LAST, 2), slow_table(source)])
        if tables and source.random() < 0.5:
            new = source.choice([other_form, lambda table: one_entry_changed(source, table)])(source.choice(tables))
        tables.append(new)
    return tuple(tables)


def plain_groups(many, alike):
    """The numbers of so many things in groups by a relation."""
    groups = []
    for number in range(many):
        for group in groups:
            if alike(group[0], number):
                group.append(number)
                break
        else:
            groups.append([number])
    return tuple(tuple(group) for group in groups)


def plain_apart(one, other, row):
    """Whether a row tells two tables apart, by all places up to its greatest end."""
    end = max((begin + len(values) for begin, values, _ in row), default=0)
    return any(plain_read(one, row, place) != plain_read(other, row, place) for place in range(end + 1))


def plain_holds(tables, value):
    """Whether any value is a packet paper, by the words of the document."""
    if type(value) is not tuple or len(value) != 2 or not is_row(value[0]) or type(value[1]) is not tuple:
        return False
    row, tests = value
    for test in tests:
        if type(test) is not tuple or len(test) != 3 or any(type(part) is not int for part in test) or test[2] < 0:
            return False
    pairs = [pair for pair in combinations(range(len(tables)), 2) if not are_alike(tables[pair[0]], tables[pair[1]])]
    if [test[:2] for test in tests] != pairs:
        return False
    return all(plain_read(tables[one], row, place) != plain_read(tables[other], row, place) for one, other, place in tests)


class Groups(unittest.TestCase):
    def test_alike_tables(self):
        source = random.Random(27)
        sizes = set()
        for many in range(1, 7):
            for _ in range(6):
                tables = tables_with_alike_ones(source, many)
                found = groups_of(tables)
                self.assertEqual(found, plain_groups(many, lambda one, other: are_alike(tables[one], tables[other])))
                self.assertEqual(groups_of(deepcopy(tables)), found)
                sizes.add((many, len(found)))
        self.assertGreater(len(sizes), 12)

    def test_by_hand(self):
        self.assertEqual(groups_of((FIRST,)), ((0,),))
        self.assertEqual(groups_of((VOTE,) * 6), (tuple(range(6)),))
        self.assertEqual(groups_of((LAST, FIRST, other_form(LAST), FIRST, BEGINS, LAST)), ((0, 2, 5), (1, 3), (4,)))


class Apart(unittest.TestCase):
    def test_rows(self):
        source = random.Random(28)
        for many in range(1, 7):
            for _ in range(25):
                tables = tables_with_alike_ones(source, many)
                row = random_row(source, most=4, most_end=4)
                found = apart_by(tables, row)
                self.assertEqual(found, plain_groups(many, lambda one, other: not plain_apart(tables[one], tables[other], row)))
                self.assertEqual(apart_by(tables, deepcopy(row)), found)

    def test_by_hand(self):
        tables = (FIRST, LAST, BEGINS)
        self.assertEqual(apart_by(tables, ()), ((0, 1, 2),))
        self.assertEqual(apart_by(tables, ((3, (5, None), False),)), ((0, 1, 2),))
        self.assertEqual(apart_by(tables, ((1, (5,), False), (0, (6, 6), False))), ((0,), (1, 2)))
        self.assertEqual(apart_by(tables, ((1, (5,), False), (0, (5, 5), False))), ((0, 1, 2),))
        self.assertEqual(apart_by(tables, ((4998, (5, 5), False), (4999, (6,), False))), ((0, 2), (1,)))

    def test_a_long_row(self):
        row = ((0, (1, 2), False),) * 1999 + ((0, (3, 2), True),)
        self.assertEqual(apart_by((FIRST, LAST, VOTE), row), ((0, 2), (1,)))


class FindPacket(unittest.TestCase):
    def check_paper(self, tables):
        paper = find_packet(tables)
        self.assertTrue(plain_holds(tables, paper))
        self.assertIs(packet_holds(tables, paper), True)
        self.assertEqual(find_packet(deepcopy(tables)), paper)
        self.assertEqual(apart_by(tables, paper[0]), groups_of(tables))
        return paper

    def test_one_to_six_tables(self):
        source = random.Random(29)
        for many in range(1, 7):
            for _ in range(6):
                self.check_paper(tables_with_alike_ones(source, many))

    def test_told_tables(self):
        self.assertEqual(len(self.check_paper(tuple(told_table(name) for name in NAMES[:6]))[1]), 15)
        self.assertEqual(len(self.check_paper(tuple(told_table(name) for name in NAMES[4:]))[1]), 15)

    def test_alike_tables_need_no_tests(self):
        for tables in ((FIRST,), (VOTE, VOTE), (VOTE, other_form(VOTE)) * 3):
            self.assertEqual(self.check_paper(tables), ((), ()))

    def test_largest_tables(self):
        source = random.Random(30)
        self.check_paper(tuple(random_table(source, states=6) for _ in range(6)))
        table = random_table(source, states=6)
        self.check_paper((table, *[one_entry_changed(source, table) for _ in range(5)]))


class PacketHolds(unittest.TestCase):
    def check_hold(self, tables, value):
        self.assertIs(packet_holds(tables, value), plain_holds(tables, value), value)

    def test_papers_with_one_part_changed(self):
        source = random.Random(31)
        for tables in ((FIRST,), (FIRST, LAST), (FIRST, LAST, BEGINS, FIRST), (VOTE, VOTE)):
            for value in changed(find_packet(tables)):
                self.check_hold(tables, value)
        for _ in range(10):
            tables = tables_with_alike_ones(source, source.randint(2, 4))
            for value in some_changed(source, find_packet(tables), many=30):
                self.check_hold(tables, value)

    def test_papers_of_other_tables(self):
        source = random.Random(32)
        some = [tables_with_alike_ones(source, many) for many in (1, 2, 2, 3, 3)] + [(FIRST, LAST), (LAST, FIRST), (FIRST, FIRST)]
        for tables in some:
            for others in some:
                self.check_hold(tables, find_packet(others))

    def test_tests_by_hand(self):
        tables = (FIRST, LAST, BEGINS, FIRST)
        row = ((1, (5, 5), False), (0, (6, 6), False), (2, (7,), False))
        for tests, wanted in (
                (((0, 1, 1), (0, 2, 1), (1, 2, 2), (1, 3, 2), (2, 3, 1)), True),
                (((0, 1, 2), (0, 2, 1), (1, 2, 2), (1, 3, 1), (2, 3, 1)), True),
                (((0, 1, 0), (0, 2, 1), (1, 2, 2), (1, 3, 2), (2, 3, 1)), False),
                (((0, 1, 3), (0, 2, 1), (1, 2, 2), (1, 3, 2), (2, 3, 1)), False),
                (((0, 1, 1), (0, 2, 1), (1, 2, 1), (1, 3, 2), (2, 3, 1)), False),
                (((0, 1, 1), (0, 2, 1), (1, 2, 2), (1, 3, 2)), False),
                (((0, 1, 1), (0, 1, 2), (0, 2, 1), (1, 2, 2), (1, 3, 2), (2, 3, 1)), False),
                (((0, 2, 1), (0, 1, 1), (1, 2, 2), (1, 3, 2), (2, 3, 1)), False),
                (((1, 0, 1), (0, 2, 1), (1, 2, 2), (1, 3, 2), (2, 3, 1)), False),
                (((False, True, True), (0, 2, 1), (1, 2, 2), (1, 3, 2), (2, 3, 1)), False),
                (((0, 1, 1), (0, 2, 1), (0, 3, 1), (1, 2, 2), (1, 3, 2), (2, 3, 1)), False),
                ((), False)):
            self.assertIs(packet_holds(tables, (row, tests)), wanted, tests)
            self.assertIs(packet_holds(tables, (row, list(tests))), False)
            self.assertIs(packet_holds(tables, (list(row), tests)), False)
            self.assertIs(packet_holds(tables, [row, tests]), False)

    def test_any_row_if_all_are_alike(self):
        for row in ((), ROW, ((0, (5,), False),) * 2000):
            self.assertIs(packet_holds((FIRST, other_form(FIRST)), (row, ())), True)
            self.assertIs(packet_holds((FIRST,), (row, ())), True)
            self.assertIs(packet_holds((FIRST,), (row, ((0, 0, 0),))), False)

    def test_far_places(self):
        for place in (5000, 10 ** 60 - 1, -1, None):
            self.assertIs(packet_holds((FIRST, LAST), (ROW, ((0, 1, place),))), False)

    def test_any_values(self):
        for tables in ((FIRST,), (FIRST, LAST), tuple(many_tables(random.Random(33), 0)[:6])):
            for value in any_values():
                self.assertIs(packet_holds(tables, value), False)
                self.assertIs(packet_holds(tables, (value, ())), len(tables) == 1 and is_row(value))
                self.assertIs(packet_holds(tables, (ROW, value)), len(tables) == 1 and value == ())
                self.assertIs(packet_holds(tables, (ROW, (value,))), False)
                self.assertIs(packet_holds(tables, (ROW, ((0, 1, value),))), len(tables) == 2 and type(value) is int and value in (1, 2))


if __name__ == "__main__":
    unittest.main()
