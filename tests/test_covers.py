"""Promise 19: tables that cover one another."""

import random
import unittest
from copy import deepcopy
from itertools import product

from fragweave.bounds import FALSE
from fragweave.covers import cover_holds, find_cover
from fragweave.errors import BadCount
from fragweave.pieces import is_row, places_of
from fragweave.places import value_read
from fragweave.tables import entry_of, told_table
from tests.helpers import NAMES, any_values, plain_value, random_table, sign_of
from tests.plain import (changed, one_entry_changed, other_form, pieces_over, plain_ranks, plain_read, plain_step,
                         slow_table, some_changed)

FIRST = told_table("first")
LAST = told_table("last")
VOTE = told_table("vote")
MOST = told_table("most")
FIRST_TYPES = (((0, 0), (0, 0), (0, 0), (0, 0, 0), 0), ((0, 0), (0, 0), (0, 0), (1, 0, 0), 1), ((0, 0), (0, 0), (0, 0), (0, 1, 1), 1))


def plain_followers(tables, start, false):
    """The cover types behind all new pieces, by the words of the document."""
    states, begins, ends, values, falses = start
    for begin, end, value in product(*[range(2 * len(set(ranks)) + 1) for ranks in (begins, ends, values)]):
        owners, following = [], []
        for table, state, b, e, v in zip(tables, states, begins, ends, values[1:]):
            own = (2 * b + 1, 2 * e + 1, 2 * v + 1)
            who, after = entry_of(table, state, sign_of(begin, own[0]), sign_of(end, own[1]), sign_of(value, own[2]))
            owners.append((begin, end, value) if who == "new" else own)
            following.append(after)
        sent = 2 * values[0] + 1
        count = falses + (value != sent)
        if count <= false:
            yield (tuple(following), plain_ranks([owner[0] for owner in owners]), plain_ranks([owner[1] for owner in owners]),
                   plain_ranks([sent, *[owner[2] for owner in owners]]), count)


def plain_bare(start):
    """Whether the second run reads the value that was sent, and the first one does not."""
    sent, one, other = start[3]
    return other == sent != one


def plain_types(one, other, false):
    """The ascending tuple of the cover types that come about, None if one table does not cover the other one."""
    firsts = [start for start in FIRST_TYPES if start[4] <= false]
    reached, left = set(firsts), firsts
    while left:
        start = left.pop()
        for follower in plain_followers((one, other), start, false):
            if plain_bare(follower):
                return None
            if follower not in reached:
                reached.add(follower)
                left.append(follower)
    return tuple(sorted(reached))


def is_ranks(value, many):
    """Whether any value is so many ranks."""
    return (type(value) is tuple and len(value) == many and all(type(rank) is int for rank in value)
            and set(value) == set(range(len(set(value)))))


def plain_is_type(tables, false, value):
    """Whether any value is a cover type by its form."""
    if type(value) is not tuple or len(value) != 5 or type(value[0]) is not tuple or len(value[0]) != 2:
        return False
    states, begins, ends, values, falses = value
    if any(type(state) is not int or not 0 <= state < len(table) for state, table in zip(states, tables)):
        return False
    return (is_ranks(begins, 2) and is_ranks(ends, 2) and is_ranks(values, 3)
            and type(falses) is int and 0 <= falses <= false)


def plain_cover_holds(one, other, false, value):
    """Whether any value is a cover paper, by the words of the document."""
    if type(value) is not tuple:
        return False
    if len(value) == 2 and value[0] == "covers":
        types = value[1]
        if type(types) is not tuple or not all(plain_is_type((one, other), false, start) for start in types):
            return False
        if list(types) != sorted(set(types)) or any(plain_bare(start) for start in types):
            return False
        if any(start[4] <= false and start not in types for start in FIRST_TYPES):
            return False
        return all(follower in types for start in types for follower in plain_followers((one, other), start, false))
    if len(value) != 4 or value[0] != "bare" or not is_row(value[1]):
        return False
    _, row, place, sent = value
    if type(place) is not int or place < 0 or type(sent) is not int or not 0 <= sent <= 10 ** 6:
        return False
    values = [plain_value(piece, place) for piece in row if plain_value(piece, place) is not None]
    if len(values) - values.count(sent) > false:
        return False
    return value_read(other, row, place) == sent != value_read(one, row, place)


def fewest_bare(one, other, false, most):
    """The fewest pieces over a place where a table is bare, by a trial of all, None if more than most."""
    layer = {(None, None, 0)}
    for count in range(1, most + 1):
        behind = set()
        for holding, other_holding, falses in layer:
            for piece in pieces_over(2, values=5):
                new = (plain_step(one, holding, piece, 2), plain_step(other, other_holding, piece, 2), falses + (piece[1][0] != 2))
                if new[2] > false:
                    continue
                if new[1][0][1][0] == 2 != new[0][0][1][0]:
                    return count
                behind.add(new)
        layer = behind
    return None


def equal_taker(source, states):
    """A table that takes another piece only if its value is the same."""
    return tuple(
        tuple((source.choice(("old", "new")) if at % 3 == 1 else "old", source.randrange(states)) for at in range(27))
        for _ in range(states))


class FindCover(unittest.TestCase):
    def check_paper(self, one, other, false):
        paper = find_cover(one, other, false)
        self.assertIs(cover_holds(one, other, false, paper), True)
        if paper[0] == "covers":
            return paper
        word, row, place, value = paper
        self.assertEqual((word, is_row(row)), ("bare", True))
        self.assertTrue(all(place in places_of(piece) for piece in row))
        values = [plain_value(piece, place) for piece in row]
        self.assertLessEqual(len(values) - values.count(value), false)
        self.assertEqual(plain_read(other, row, place), value)
        self.assertNotEqual(plain_read(one, row, place), value)
        return paper

    def test_told_tables(self):
        for one, other in product(NAMES, repeat=2):
            for false in (0, 1, 2, FALSE):
                paper = self.check_paper(told_table(one), told_table(other), false)
                if one == other or false == 0:
                    self.assertEqual(paper[0], "covers")
                types = plain_types(told_table(one), told_table(other), false)
                self.assertEqual(types, paper[1] if paper[0] == "covers" else None)

    def test_what_covers(self):
        for one, other, false, covers in (
                (VOTE, FIRST, 1, True), (VOTE, FIRST, 2, False), (FIRST, VOTE, 1, False), (MOST, VOTE, 1, True),
                (VOTE, MOST, 1, True), (VOTE, MOST, 2, False), (MOST, VOTE, 2, False), (LAST, FIRST, 1, False)):
            self.assertIs(self.check_paper(one, other, false)[0] == "covers", covers)

    def test_other_forms_and_entries_changed(self):
        source = random.Random(120)
        found = {"covers": 0, "bare": 0}
        for name in NAMES:
            table = told_table(name)
            for false in (1, 3):
                self.assertEqual(self.check_paper(table, other_form(table), false)[0], "covers")
                other = one_entry_changed(source, other_form(table))
                paper = self.check_paper(table, other, false)
                found[paper[0]] += 1
                types = plain_types(table, other, false)
                self.assertEqual(types, paper[1] if paper[0] == "covers" else None)
        self.assertGreater(min(found.values()), 2, found)

    def test_random_tables(self):
        source = random.Random(121)
        for _ in range(60):
            for false in (0, 1, FALSE):
                self.check_paper(random_table(source), random_table(source), false)

    def test_slow_tables(self):
        source = random.Random(126)
        counts = []
        for _ in range(60):
            table = slow_table(source)
            for other in (FIRST, slow_table(source), one_entry_changed(source, table)):
                paper = self.check_paper(table, other, 2)
                counts.append(len(paper[1]) if paper[0] == "bare" else 0)
        self.assertGreater(sum(count > 4 for count in counts), 15)

    def test_the_fewest_types(self):
        source = random.Random(122)
        for states in (1, 2):
            one, other = equal_taker(source, states), equal_taker(source, states)
            for false in (0, 1, 2):
                self.assertEqual(find_cover(one, other, false), ("covers", plain_types(one, other, false)))

    def test_the_fewest_pieces(self):
        source = random.Random(123)
        counts = set()
        for at in range(12):
            one = told_table(source.choice(("first", "vote", "most", "ranked")))
            other = one_entry_changed(source, one) if at % 2 else told_table(source.choice(("first", "vote", "most")))
            for false in (1, 2):
                paper = self.check_paper(one, other, false)
                fewest = len(paper[1]) if paper[0] == "bare" and len(paper[1]) <= 3 else None
                counts.add(fewest)
                self.assertEqual(fewest_bare(one, other, false, 3), fewest)
        self.assertEqual(counts, {None, 2, 3})

    def test_the_largest_tables(self):
        source = random.Random(124)
        one, other = equal_taker(source, 6), equal_taker(source, 6)
        paper = self.check_paper(one, other, FALSE)
        self.assertEqual(paper[0], "covers")
        self.assertGreater(len(paper[1]), 4000)
        for _ in range(5):
            self.check_paper(random_table(source, states=6), one_entry_changed(source, one), FALSE)
            self.check_paper(one_entry_changed(source, one), one, FALSE)


class CoverHolds(unittest.TestCase):
    def check(self, one, other, false, value, found):
        expected = plain_cover_holds(one, other, false, value)
        found[expected] += 1
        self.assertIs(cover_holds(one, other, false, value), expected, (value, false))

    def test_parts_changed(self):
        source = random.Random(125)
        found = [0, 0]
        for one, other in ((FIRST, LAST), (FIRST, FIRST), (VOTE, FIRST), (MOST, VOTE), (VOTE, VOTE), (LAST, FIRST)):
            for false in (0, 1, 2):
                paper = find_cover(one, other, false)
                for value in [paper, *some_changed(source, paper, many=150)]:
                    self.check(one, other, false, value, found)
                for count in range(4):
                    self.check(one, other, count, paper, found)
        self.assertGreater(min(found), 40, found)

    def test_types_left_out_and_put_in(self):
        found = [0, 0]
        for one, other in ((VOTE, FIRST), (FIRST, FIRST)):
            word, types = find_cover(one, other, 1)
            for at in range(len(types)):
                self.check(one, other, 1, (word, types[:at] + types[at + 1:]), found)
                self.check(one, other, 1, (word, types[:at + 1] + types[at:]), found)
                self.check(one, other, 1, (word, types[:at] + types[at:at + 2][::-1] + types[at + 2:]), found)
        ranks = ((0, 0), (0, 1), (1, 0))
        values = [triple for triple in product(range(3), repeat=3) if is_ranks(triple, 3)]
        self.assertEqual(len(values), 13)
        every = tuple(sorted(
            start for begins, ends, triple, falses in product(ranks, ranks, values, range(2))
            for start in [((0, 0), begins, ends, triple, falses)] if not plain_bare(start)))
        self.check(FIRST, FIRST, 1, ("covers", every), found)
        for at in range(0, len(every), 25):
            self.check(FIRST, FIRST, 1, ("covers", every[:at] + every[at + 1:]), found)
        self.check(FIRST, FIRST, 2, ("covers", every), found)
        self.check(FIRST, LAST, 1, ("covers", every), found)
        bare = ((0, 0), (0, 0), (0, 0), (0, 1, 0), 1)
        self.assertTrue(plain_bare(bare))
        self.check(FIRST, FIRST, 1, ("covers", tuple(sorted((*every, bare)))), found)
        self.assertGreater(min(found), 0, found)

    def test_rows(self):
        found = [0, 0]
        word, row, place, value = find_cover(FIRST, MOST, 1)
        for other in (row, row + row[:1], row[:-1], row + ((4000, (None,), True),), list(row), (), None):
            for at in (place, place + 1, 10 ** 59, -1, True, None):
                for sent in (value, value + 1, value - 1, 10 ** 6, True, None):
                    for false in (0, 1, 2):
                        self.check(FIRST, MOST, false, (word, other, at, sent), found)
        true = ((0, (0,), False), (0, (1,), False))
        for sent in (True, 1, False, 0):
            self.check(FIRST, LAST, 1, ("bare", true, 0, sent), found)
            self.check(LAST, FIRST, 1, ("bare", true, False, sent), found)
            self.check(LAST, FIRST, 1, ("bare", true, 0, sent), found)
        self.assertGreater(min(found), 5, found)

    def test_other_values(self):
        for false in (0, 1):
            for value in (*any_values(), (), ("covers",), ("covers", ()), ("bare", (), 0), ("bare", (), 0, 0)):
                self.assertIs(cover_holds(FIRST, FIRST, false, value), False)
                self.assertIs(cover_holds(FIRST, FIRST, false, ("covers", value)), False)
                self.assertIs(cover_holds(FIRST, FIRST, false, ("covers", (value,))), False)
                self.assertIs(cover_holds(LAST, FIRST, false, ("bare", value, 0, 0)), False)
                self.assertIs(cover_holds(LAST, FIRST, false, ("bare", (value,), value, value)), False)


class Arguments(unittest.TestCase):
    def test_wrong_numbers(self):
        others = [value for value in any_values() if type(value) is not int] + [-1, 10 ** 59, FALSE + 1, 1.0]
        for value in others:
            for call in (lambda: find_cover(FIRST, LAST, value), lambda: cover_holds(FIRST, LAST, value, None)):
                with self.assertRaises(BadCount) as caught:
                    call()
                self.assertIs(caught.exception.value, value)

    def test_arguments_are_not_changed(self):
        for tables in ((VOTE, FIRST), (FIRST, VOTE)):
            kept = deepcopy(tables)
            paper = find_cover(*tables, 1)
            self.assertEqual(find_cover(*kept, 1), paper)
            before = deepcopy(paper)
            self.assertIs(cover_holds(*tables, 1, paper), True)
            self.assertEqual((tables, paper), (kept, before))
        self.assertGreater(len(changed(find_cover(FIRST, MOST, 1))), 50)


if __name__ == "__main__":
    unittest.main()
