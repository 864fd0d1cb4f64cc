"""Promises 2 (a), 5 and 7, and section 3: what is read at a place."""

import random
import unittest
from copy import deepcopy

from fragweave.pieces import stretched
from fragweave.places import owner_at, steps_at, value_read
from fragweave.tables import told_table
from tests.helpers import (NAMES, ROW, plain_steps, plain_value, random_piece, random_row, random_table,
                           tables_to_try)

# Whether the one-state told tables take a new piece, in terms of the spans and values of the pieces.
MEANINGS = {
    "first": lambda new, owner: False,
    "last": lambda new, owner: True,
    "begins": lambda new, owner: new[0] < owner[0],
    "ends": lambda new, owner: new[1] > owner[1],
    "cover": lambda new, owner: new[0] <= owner[0] and new[1] >= owner[1] and new[:2] != owner[:2],
    "inner": lambda new, owner: new[0] >= owner[0] and new[1] <= owner[1] and new[:2] != owner[:2],
    "least": lambda new, owner: new[2] < owner[2],
    "ranked": lambda new, owner: (new[0], -new[1], new[2]) < (owner[0], -owner[1], owner[2]),
}


def seen(row, place):
    """(begin, end, value) of each piece over a place, by its number."""
    found = {}
    for number, piece in enumerate(row):
        value = plain_value(piece, place)
        if value is not None:
            found[number] = (piece[0], piece[0] + len(piece[1]), value)
    return found


class Steps(unittest.TestCase):
    def test_after_the_words_of_the_document(self):
        source = random.Random(9)
        for table in tables_to_try(10):
            for _ in range(40):
                row = random_row(source, most=9)
                for place in range(8):
                    steps = plain_steps(table, row, place)
                    self.assertEqual(steps_at(table, row, place), steps)
                    self.assertEqual(owner_at(table, row, place), steps[-1][1] if steps else None)
                    value = plain_value(row[steps[-1][1]], place) if steps else None
                    self.assertEqual(value_read(table, row, place), value)

    def test_places_that_no_piece_covers(self):
        row = ((1, (5, None, 7), False), (2, (None,), True))
        for place in (0, 2, 4, 10 ** 59):
            for name in NAMES:
                self.assertEqual(steps_at(told_table(name), row, place), ())
                self.assertIsNone(owner_at(told_table(name), row, place))
                self.assertIsNone(value_read(told_table(name), row, place))
        self.assertEqual(steps_at(told_table("last"), (), 0), ())

    def test_left_out_places_are_not_asked_for(self):
        row = ((0, (None, 5), False), (0, (6, None, 6), True), (0, (7, 7), False))
        self.assertEqual(steps_at(told_table("first"), row, 0), ((1, 1, 0), (2, 1, 0)))
        self.assertEqual(steps_at(told_table("last"), row, 1), ((0, 0, 0), (2, 2, 0)))
        self.assertEqual([value_read(told_table("last"), row, place) for place in range(4)], [7, 7, 6, None])

    def test_begins_and_ends_count_as_told(self):
        row = ((1, (5,), False), (0, (None, 6, None), False))
        for name, value in (("begins", 6), ("ends", 6), ("cover", 6), ("inner", 5)):
            self.assertEqual(value_read(told_table(name), row, 1), value)

    def test_the_value_zero_is_a_value(self):
        row = ((0, (4,), False), (0, (0,), False))
        self.assertEqual(value_read(told_table("least"), row, 0), 0)
        self.assertEqual(owner_at(told_table("first"), row[::-1], 0), 0)

    def test_two_thousand_pieces_over_one_place(self):
        row = tuple((0, (k % 7,), False) for k in range(2000))
        self.assertEqual(owner_at(told_table("last"), row, 0), 1999)
        self.assertEqual(owner_at(told_table("first"), row, 0), 0)
        for table in tables_to_try(11):
            self.assertEqual(steps_at(table, row, 0), plain_steps(table, row, 0))


class ToldTables(unittest.TestCase):
    def test_one_state(self):
        source = random.Random(12)
        for name, takes in MEANINGS.items():
            for _ in range(80):
                row = random_row(source, most=9)
                for place in range(6):
                    pieces = seen(row, place)
                    owner = None
                    for number in pieces:
                        if owner is None or takes(pieces[number], pieces[owner]):
                            owner = number
                    self.assertEqual(owner_at(told_table(name), row, place), owner, name)

    def test_vote(self):
        for values, read in (((5,), 5), ((5, 6), 5), ((5, 6, 6), 6), ((5, 6, 5, 6), 5), ((5, 6, 7), 7), ((5, 6, 7, 7, 5, 5), 5)):
            row = tuple((0, (value,), False) for value in values)
            self.assertEqual(value_read(told_table("vote"), row, 0), read, values)

    def test_most(self):
        for values, read in (((5,), 5), ((5, 6), 5), ((5, 5, 6, 6, 6), 5), ((5, 6, 5, 6, 6), 5), ((5, 6, 6, 5, 5), 6),
                             ((5, 6, 7, 5, 5), 7)):
            row = tuple((0, (value,), False) for value in values)
            self.assertEqual(value_read(told_table("most"), row, 0), read, values)


class WhatCounts(unittest.TestCase):
    """What is read at a place hangs on nothing but the pieces over it and how they lie to one another."""

    def test_other_pieces_do_not_count(self):
        source = random.Random(13)
        for table in tables_to_try(14):
            for _ in range(20):
                row = random_row(source, most=8)
                for place in range(6):
                    alone = tuple(piece for piece in row if plain_value(piece, place) is not None)
                    self.assertEqual(value_read(table, row, place), value_read(table, alone, place))
                    ends = [(owner, state) for _, owner, state in steps_at(table, alone, place)]
                    numbers = list(seen(row, place))
                    self.assertEqual([(numbers[owner], state) for owner, state in ends],
                                     [(owner, state) for _, owner, state in steps_at(table, row, place)])

    def test_what_pieces_have_elsewhere_does_not_count(self):
        source = random.Random(15)
        for table in tables_to_try(16):
            row = random_row(source, most=8)
            for place in range(6):
                masked = tuple(
                    (begin, tuple(item if begin + k == place else None for k, item in enumerate(items)), not last)
                    for begin, items, last in row)
                self.assertEqual(steps_at(table, masked, place), steps_at(table, row, place))

    def test_stretched_places(self):
        source = random.Random(17)
        for table in tables_to_try(18):
            for _ in range(10):
                row = random_row(source, most=8)
                numbers = tuple(sorted(source.sample(range(30), 7)))
                wide = stretched(row, numbers)
                for place in range(6):
                    for number in range(numbers[place], numbers[place + 1]):
                        self.assertEqual(steps_at(table, wide, number), steps_at(table, row, place))

    def test_values_made_greater_in_their_order(self):
        source = random.Random(19)
        for table in tables_to_try(20):
            for _ in range(10):
                row = random_row(source, most=8)
                greater = sorted(source.sample(range(10 ** 6), 3))
                moved = tuple(
                    (begin, tuple(None if item is None else greater[item] for item in items), last)
                    for begin, items, last in row)
                for place in range(6):
                    self.assertEqual(steps_at(table, moved, place), steps_at(table, row, place))

    def test_pieces_that_lie_alike_to_one_another(self):
        source = random.Random(21)
        one = ((3, (None, 5), False), (2, (1, 1, 7), False), (4, (6, 6), True))
        other = ((40, (9,) * 60, True), (7, (12,) * 93, True), (44, (10,) * 70, False))
        for table in tables_to_try(22):
            self.assertEqual(steps_at(table, one, 4), steps_at(table, other, source.randrange(44, 100)))

    def test_one_packet_in_all_pieces(self):
        source = random.Random(23)
        packet = (4, 0, 3, 3, 1, 2)
        for table in tables_to_try(24):
            pieces = [random_piece(source) for _ in range(8)]
            row = tuple(
                (begin, tuple(None if item is None else packet[begin + k] for k, item in enumerate(items)), last)
                for begin, items, last in pieces)
            for place in range(6):
                self.assertEqual(value_read(table, row, place), packet[place] if seen(row, place) else None)


class Unchanged(unittest.TestCase):
    def test_arguments_and_equal_calls(self):
        table = random_table(random.Random(25))
        row, before = deepcopy(ROW), deepcopy(table)
        for function in (steps_at, owner_at, value_read):
            self.assertEqual(function(table, row, 2), function(table, row, 2))
        self.assertEqual((row, table), (ROW, before))


if __name__ == "__main__":
    unittest.main()
