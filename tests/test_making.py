"""Promises 25 and 26: tables, and rows, that are made of others."""

import random
import unittest
from copy import deepcopy
from itertools import combinations_with_replacement, permutations, product

from fragweave.alike import are_alike
from fragweave.bounds import PIECES, SIZE, STATES
from fragweave.errors import BadCount, BadWord, TooMany
from fragweave.making import blinded, mirrored, mirrored_row, renumbered, then_table
from fragweave.merging import trimmed
from fragweave.pieces import greatest_end, is_row
from fragweave.places import owner_at, steps_at, value_read
from fragweave.tables import entry_of, table_error, told_table
from tests.helpers import NAMES, ROW, SIGNS, any_values, plain_steps, plain_value, random_row, random_table
from tests.plain import many_tables, one_entry_changed, plain_step

FIRST = told_table("first")
LAST = told_table("last")
BEGINS = told_table("begins")
VOTE = told_table("vote")
MOST = told_table("most")
TURNED = {"<": ">", "=": "=", ">": "<"}
WORDS = ("begins", "ends", "values")


class Mirrored(unittest.TestCase):
    def test_entries(self):
        source = random.Random(25)
        for table in many_tables(source, 4):
            found = mirrored(table)
            self.assertIsNone(table_error(found))
            for state, (begin, end, value) in product(range(len(table)), product(SIGNS, SIGNS, SIGNS)):
                self.assertEqual(entry_of(found, state, begin, end, value), entry_of(table, state, TURNED[end], TURNED[begin], value))

    def test_twice_is_the_table(self):
        source = random.Random(26)
        for table in many_tables(source, 20):
            self.assertEqual(mirrored(mirrored(table)), table)
            self.assertEqual(mirrored(deepcopy(table)), mirrored(table))

    def test_told_tables(self):
        mirrors = {"begins": "ends", "ends": "begins"}
        for name in NAMES:
            self.assertEqual(mirrored(told_table(name)) == told_table(mirrors.get(name, name)), name != "ranked")

    def test_mirrored_rows_are_read_as_the_rows(self):
        source = random.Random(27)
        for table in many_tables(source, 8):
            row = random_row(source, most=7)
            number = greatest_end(row) + source.choice([0, 0, 1, 5])
            other = mirrored_row(row, number)
            for place in range(number):
                self.assertEqual(steps_at(mirrored(table), other, number - 1 - place), steps_at(table, row, place))


class MirroredRow(unittest.TestCase):
    def check_row(self, row, number):
        found = mirrored_row(row, number)
        self.assertTrue(is_row(found))
        self.assertEqual([piece[2] for piece in found], [False] * len(row))
        self.assertEqual([len(piece[1]) for piece in found], [len(piece[1]) for piece in row])
        for piece, other in zip(row, found):
            self.assertEqual(other[0], number - piece[0] - len(piece[1]))
            for place in range(number):
                self.assertEqual(plain_value(other, number - 1 - place), plain_value(piece, place))

    def test_each_number(self):
        source = random.Random(28)
        for _ in range(40):
            row = random_row(source, most=5)
            least = max((begin + len(values) for begin, values, _ in row), default=0)
            for number in (*range(least, least + 4), SIZE):
                self.check_row(row, number)
                self.assertEqual(mirrored_row(deepcopy(row), number), mirrored_row(row, number))

    def test_by_hand(self):
        self.assertEqual(mirrored_row((), 0), ())
        self.assertEqual(mirrored_row((), SIZE), ())
        self.assertEqual(mirrored_row(ROW, 3), ((1, (2, 1), False), (0, (8, 7), False), (0, (3,), False)))
        self.assertEqual(mirrored_row(((0, (None, 1), True),), 2), ((0, (1, None), False),))
        self.assertEqual(mirrored_row(((0, tuple(range(SIZE)), False),), SIZE), ((0, tuple(range(SIZE))[::-1], False),))

    def test_twice_is_the_row_without_last(self):
        source = random.Random(29)
        for _ in range(40):
            row = random_row(source)
            number = greatest_end(row) + 2
            self.assertEqual(mirrored_row(mirrored_row(row, number), number), tuple((*piece[:2], False) for piece in row))


class Renumbered(unittest.TestCase):
    def test_each_order(self):
        source = random.Random(30)
        for states in range(1, 7):
            table = random_table(source, states=states)
            for rest in permutations(range(1, states)):
                order = (0, *rest)
                found = renumbered(table, order)
                for state, entries in enumerate(found):
                    self.assertEqual(tuple((who, order[following]) for who, following in entries), table[order[state]])
                back = tuple(order.index(state) for state in range(states))
                self.assertEqual(renumbered(found, back), table)

    def test_rows_are_read_alike(self):
        source = random.Random(31)
        for _ in range(40):
            table = random_table(source)
            order = (0, *source.sample(range(1, len(table)), len(table) - 1))
            row = random_row(source)
            for place in range(6):
                steps = steps_at(renumbered(table, order), row, place)
                self.assertEqual(tuple((number, owner, order[state]) for number, owner, state in steps), plain_steps(table, row, place))
            self.assertTrue(are_alike(renumbered(table, order), table))

    def test_by_hand(self):
        self.assertEqual(renumbered(VOTE, (0, 1)), VOTE)
        self.assertEqual(renumbered(FIRST, (0,)), FIRST)
        self.assertEqual(renumbered(MOST, (0, 2, 1))[0][:2], (("old", 1), ("old", 2)))
        self.assertEqual(renumbered(MOST, (0, 2, 1))[1][:2], (("new", 2), ("old", 2)))


def plain_then(table, count, other, row, place):
    """What is read by one table of so many pieces over the place, then by another one: (number of the owner, value)."""
    holding, come = None, 0
    for number, piece in enumerate(row):
        if plain_value(piece, place) is not None:
            if come == count and holding is not None:
                holding = (holding[0], 0)
            owner = holding
            holding = plain_step(table if come < count else other, holding, piece, place)
            come += 1
            if owner is None or holding[0] is not owner[0]:
                held = number
    return None if holding is None else held


def plain_then_states(table, count, other):
    """How many states a then table has: all that come about."""
    start = (1, 0) if count > 1 else (count, 0)
    reached, left = {start}, [start]
    while left and len(reached) < 100:
        come, state = left.pop()
        for _, following in other[state] if come == count else table[state]:
            behind = (count, following) if come == count else (count, 0) if come + 1 == count else (come + 1, following)
            if behind not in reached:
                reached.add(behind)
                left.append(behind)
    return len(reached)


class ThenTable(unittest.TestCase):
    def check_table(self, table, count, other):
        many = plain_then_states(table, count, other)
        if many > STATES:
            with self.assertRaises(TooMany) as caught:
                then_table(table, count, other)
            self.assertEqual(caught.exception.limit, STATES)
            return None
        found = then_table(table, count, other)
        self.assertIsNone(table_error(found))
        self.assertEqual((len(found), trimmed(found)), (many, found))
        self.assertEqual(then_table(deepcopy(table), count, deepcopy(other)), found)
        return found

    def test_rows_are_read_by_one_and_then_the_other(self):
        source = random.Random(32)
        made = 0
        for _ in range(150):
            tables = [source.choice([told_table(source.choice(NAMES)), random_table(source, states=source.randint(1, 3))]) for _ in range(2)]
            count = source.randint(1, 5)
            found = self.check_table(tables[0], count, tables[1])
            if found is not None:
                made += 1
                row = random_row(source, most=9, most_end=3)
                for place in range(4):
                    self.assertEqual(owner_at(found, row, place), plain_then(tables[0], count, tables[1], row, place))
        self.assertGreater(made, 50)

    def test_each_count(self):
        for count in range(1, PIECES + 1):
            if count <= STATES:
                found = self.check_table(FIRST, count, LAST)
                self.assertEqual(len(found), count)
            else:
                with self.assertRaises(TooMany):
                    then_table(FIRST, count, LAST)

    def test_just_as_many_states_as_can_be(self):
        source = random.Random(33)
        sizes = set()
        for _ in range(80):
            one, other = random_table(source, states=source.randint(1, 3)), random_table(source, states=source.randint(1, 6))
            for count in range(1, 7):
                sizes.add(plain_then_states(one, count, other))
                self.check_table(one, count, other)
        self.assertLessEqual({1, 6, 7, 8}, sizes)

    def test_states_that_do_not_come_about_do_not_count(self):
        wide = (FIRST[0], *random_table(random.Random(34), states=6)[1:])
        self.assertEqual(then_table(wide, 2, wide), ((("old", 1),) * 27,) * 2)
        self.assertEqual(then_table(wide, 6, LAST), tuple((("old", state + 1),) * 27 for state in range(5)) + ((("new", 5),) * 27,))

    def test_count_one_is_the_other_table(self):
        source = random.Random(35)
        for table in many_tables(source, 5):
            self.assertEqual(then_table(random_table(source), 1, table), trimmed(table))

    def test_bad_counts_are_told_ahead(self):
        wide = random_table(random.Random(36), states=6)
        for count in (0, -1, PIECES + 1, 10 ** 60, True, False, None, "1", (1,), [1], {"a": 1}):
            with self.assertRaises(BadCount) as caught:
                then_table(wide, count, wide)
            self.assertIs(caught.exception.value, count)
        for count in any_values():
            if count.__class__ is not int or not 1 <= count <= PIECES:
                with self.assertRaises(BadCount):
                    then_table(FIRST, count, LAST)


class Blinded(unittest.TestCase):
    def test_each_choice_of_words(self):
        source = random.Random(37)
        for table in many_tables(source, 2):
            for many in range(4):
                for words in combinations_with_replacement(WORDS, many):
                    found = blinded(table, *words)
                    self.assertEqual(found, blinded(table, *words[::-1]))
                    for state, (begin, end, value) in product(range(len(table)), product(SIGNS, SIGNS, SIGNS)):
                        asked = ("=" if "begins" in words else begin, "=" if "ends" in words else end, "<" if "values" in words else value)
                        self.assertEqual(entry_of(found, state, begin, end, value), entry_of(table, state, *asked))
            self.assertEqual(blinded(deepcopy(table), "ends"), blinded(table, "ends"))
            self.assertEqual(blinded(table), table)

    def test_bad_words(self):
        for word in ("", "begin", "Begins", " ends", "value", *[value for value in any_values() if value not in WORDS]):
            for words in ((word,), ("begins", word), (word, "x"), ("ends", "values", "begins", word, None)):
                with self.assertRaises(BadWord) as caught:
                    blinded(FIRST, *words)
                self.assertIs(caught.exception.value, word)

    def test_blind_tables_own_alike(self):
        source = random.Random(38)
        for _ in range(60):
            table = random_table(source)
            row = random_row(source, most=6)
            wider = tuple((begin - min(by, begin), (None,) * min(by, begin) + values, last)
                          for (begin, values, last), by in zip(row, source.choices(range(4), k=len(row))))
            longer = tuple((begin, values + (None,) * source.randrange(4), last) for begin, values, last in row)
            other = tuple((begin, tuple(item if item is None else source.randrange(5) for item in values), last) for begin, values, last in row)
            for words, changed_row in ((("begins",), wider), (("ends",), longer), (("values",), other)):
                for place in range(6):
                    self.assertEqual(owner_at(blinded(table, *words), changed_row, place), owner_at(blinded(table, *words), row, place))

    def test_told_tables_that_are_blind(self):
        blind = {name: tuple(word for word in WORDS if are_alike(told_table(name), blinded(told_table(name), word))) for name in NAMES}
        self.assertEqual(blind, {
            "first": WORDS, "last": WORDS, "begins": ("ends", "values"), "ends": ("begins", "values"), "cover": ("values",),
            "inner": ("values",), "least": ("begins", "ends"), "ranked": (), "vote": ("begins", "ends"), "most": ("begins", "ends")})

    def test_pieces_may_be_cut_if_begins_and_ends_do_not_matter(self):
        source = random.Random(39)
        met = set()
        for table in [told_table(name) for name in NAMES] + [blinded(random_table(source), "begins", "ends") for _ in range(5)]:
            free = are_alike(table, blinded(table, "begins", "ends"))
            differs = False
            for _ in range(60):
                row = random_row(source, most=5, most_end=4)
                cut = []
                for begin, values, last in row:
                    at = source.randint(0, len(values))
                    cut.extend([part for part in ((begin, values[:at], False), (begin + at, values[at:], last)) if part[1]])
                differs = differs or any(value_read(table, row, place) != value_read(table, tuple(cut), place) for place in range(4))
            self.assertEqual(differs, not free)
            met.add(free)
        self.assertEqual(met, {True, False})

    def test_a_table_with_one_entry_changed(self):
        source = random.Random(40)
        for _ in range(20):
            table = blinded(random_table(source, states=2), "begins")
            self.assertTrue(are_alike(table, blinded(table, "begins")))
            other = one_entry_changed(source, table)
            if not are_alike(other, blinded(other, "begins")):
                self.assertNotEqual(other, blinded(other, "begins"))


if __name__ == "__main__":
    unittest.main()
