"""Promise 16: tidy papers."""

import random
import unittest
from copy import deepcopy
from itertools import product

from fragweave.errors import TooMany
from fragweave.tables import entry_of, told_table
from fragweave.tidy import find_tidy, tidy_holds
from fragweave.types import first_type
from tests.helpers import NAMES, any_values, random_table, sign_of
from tests.plain import (changed, one_entry_changed, other_form, plain_first, plain_is_type, plain_letters, plain_next,
                         plain_ranks, some_changed)

FIRST = told_table("first")
LAST = told_table("last")
BEGINS = told_table("begins")
VOTE = told_table("vote")
MOST = told_table("most")


def plain_leave(tables, start, letter):
    """The type behind "leave", None where the choice fails, by the document's words."""
    states, begins, ends, _ = start
    begin, end, value = letter
    who, following = entry_of(
        tables[0], states[0], sign_of(begin, 2 * begins[0] + 1), sign_of(end, 2 * ends[0] + 1), "<=>"[value])
    if who == "new" and value != 1:
        return None
    places = [[2 * rank + 1 for rank in ranks] for ranks in (begins, ends)]
    if who == "new":
        places[0][0], places[1][0] = begin, end
    return ((following, *states[1:]), plain_ranks(places[0]), plain_ranks(places[1]), ())


def plain_behind(tables, start, letter):
    """The types behind both choices, None where one fails."""
    return {"pass": plain_next(tables, start, letter, "all"), "leave": plain_leave(tables, start, letter)}


def plain_serves(tables):
    """Whether some tidier serves the tables: what is left when the types that fail are taken away, again and again."""
    first = plain_first(len(tables), "all")
    behind, left = {}, [first]
    while left:
        start = left.pop()
        if start not in behind:
            behind[start] = [list(plain_behind(tables, start, letter).values()) for letter in plain_letters(start, "all")]
            left.extend([one for pair in behind[start] for one in pair if one is not None])
    alive = set(behind)
    while True:
        kept = {start for start in alive if all(any(one in alive for one in pair) for pair in behind[start])}
        if kept == alive:
            return first in alive
        alive = kept


def plain_tidy_holds(table, others, value):
    """Whether a value is a tidy paper, by the words of the document."""
    tables = (table, *others)
    if type(value) is not tuple or len(value) != 2 or value[0] not in ("serves", "fails") or type(value[1]) is not tuple:
        return False
    word, rows = value
    size = 2 if word == "serves" else 3
    if any(type(row) is not tuple or len(row) != size or not plain_is_type(tables, row[0], "all") for row in rows):
        return False
    types = [row[0] for row in rows]
    if types != sorted(set(types)) or plain_first(len(tables), "all") not in types:
        return False
    if word == "serves":
        return all(plain_row_serves(tables, row, types) for row in rows)
    return all(plain_row_fails(tables, row, rows) for row in rows)


def plain_row_serves(tables, row, types):
    """Whether a row of a paper that serves is right."""
    start, choices = row
    letters = plain_letters(start, "all")
    if type(choices) is not tuple or len(choices) != len(letters) or any(one not in ("pass", "leave") for one in choices):
        return False
    return all(plain_behind(tables, start, letter)[choice] in types for letter, choice in zip(letters, choices))


def plain_row_fails(tables, row, rows):
    """Whether a row of a paper that fails is right."""
    start, rank, letter = row
    if type(rank) is not int or rank < 0 or type(letter) is not tuple or any(type(part) is not int for part in letter):
        return False
    if letter not in plain_letters(start, "all"):
        return False
    ranks = {other: (value if type(value) is int else None) for other, value, _ in rows}
    return all(
        one is None or ranks.get(one) is not None and ranks[one] < rank
        for one in plain_behind(tables, start, letter).values())


def flipped(paper):
    """The papers with one choice exchanged."""
    for at, (start, choices) in enumerate(paper[1]):
        for number, choice in enumerate(choices):
            other = (*choices[:number], "leave" if choice == "pass" else "pass", *choices[number + 1:])
            yield (paper[0], (*paper[1][:at], (start, other), *paper[1][at + 1:]))


def small_products(tables):
    """Whether these three tables are small enough together."""
    return len(tables[0]) * len(tables[1]) * len(tables[2]) <= 8


class FindTidy(unittest.TestCase):
    def check_paper(self, *tables):
        paper = find_tidy(*tables)
        self.assertIs(tidy_holds(tables[0], tables[1:], paper), True)
        self.assertEqual(paper[0], "serves" if plain_serves(tables) else "fails")
        return paper

    def test_told_tables(self):
        for one, other in product(NAMES, repeat=2):
            paper = self.check_paper(told_table(one), told_table(other))
            self.assertIs(plain_tidy_holds(told_table(one), (told_table(other),), paper), True)
            if one == other or other == "last" or one == "first":
                self.assertEqual(paper[0], "serves")

    def test_two_others(self):
        source = random.Random(90)
        names = [names for names in product(NAMES, repeat=3) if small_products([told_table(name) for name in names])]
        some = source.sample(names, 12) + [("first", "last", "vote"), ("first", "last", "begins"), ("last", "last", "last")]
        found = {"serves": 0, "fails": 0}
        for one, two, three in some:
            paper = self.check_paper(told_table(one), told_table(two), told_table(three))
            found[paper[0]] += 1
        self.assertGreater(min(found.values()), 2, found)

    def test_other_forms_and_entries_changed(self):
        source = random.Random(91)
        found = {"serves": 0, "fails": 0}
        for name in NAMES:
            table = told_table(name)
            other = other_form(table)
            self.assertEqual(self.check_paper(table, other)[0], "serves")
            self.assertEqual(self.check_paper(other, table)[0], "serves")
            for one, two in (
                    (table, one_entry_changed(source, other)), (one_entry_changed(source, table), LAST),
                    (one_entry_changed(source, one_entry_changed(source, other)), table)):
                found[self.check_paper(one, two)[0]] += 1
        self.assertGreater(min(found.values()), 3, found)

    def test_random_tables(self):
        source = random.Random(92)
        for _ in range(25):
            self.check_paper(random_table(source, states=2), random_table(source, states=source.randint(1, 3)))
            self.check_paper(random_table(source), LAST)

    def test_ranks(self):
        """The table "vote" fails for "first" only behind a piece that leads to its second state."""
        paper = find_tidy(VOTE, FIRST)
        self.assertEqual([rank for _, rank, _ in paper[1]], [1, 0])
        self.assertEqual(find_tidy(LAST, FIRST), ("fails", ((first_type(2), 0, (0, 0, 0)),)))

    def test_the_largest_tables(self):
        source = random.Random(93)
        one, other = self.equal_taker(source, 6), self.equal_taker(source, 6)
        paper = find_tidy(one, other)
        self.assertEqual(paper[0], "serves")
        self.assertIs(tidy_holds(one, (other,), paper), True)
        for states in ((2, 2, 2), (1, 2, 4), (4, 1, 2)):
            tables = [self.equal_taker(source, count) for count in states]
            paper = find_tidy(*tables)
            self.assertEqual(paper[0], "serves")
            self.assertGreater(len(paper[1]), 500)
            self.assertIs(tidy_holds(tables[0], tuple(tables[1:]), paper), True)
        paper = find_tidy(random_table(source, states=6), random_table(source, states=6))
        self.assertEqual(paper[0], "fails")

    def equal_taker(self, source, states):
        """A table that takes another piece only if its value is the same."""
        return tuple(
            tuple((source.choice(("old", "new")) if at % 3 == 1 else "old", source.randrange(states)) for at in range(27))
            for _ in range(states))


class TooManyStates(unittest.TestCase):
    def test_just_where_the_document_says_so(self):
        tables = {count: tuple((("old", 0),) * 27 for _ in range(count)) for count in range(1, 7)}
        for one, two, three in product(range(1, 7), repeat=3):
            calls = (lambda: find_tidy(tables[one], tables[two], tables[three])[0],
                     lambda: tidy_holds(tables[one], (tables[two], tables[three]), None))
            for call, answer in zip(calls, ("serves", False)):
                if one * two * three <= 8:
                    self.assertEqual(call(), answer)
                    continue
                with self.assertRaises(TooMany) as caught:
                    call()
                self.assertEqual(caught.exception.limit, 8)
        self.assertEqual(find_tidy(tables[6], tables[6])[0], "serves")
        self.assertIs(tidy_holds(tables[6], (tables[6],), None), False)


class TidyHolds(unittest.TestCase):
    def check(self, tables, values):
        found = [0, 0]
        for value in values:
            expected = plain_tidy_holds(tables[0], tables[1:], value)
            found[expected] += 1
            self.assertIs(tidy_holds(tables[0], tables[1:], value), expected, value)
        return found

    def test_parts_changed(self):
        source = random.Random(94)
        found = [0, 0]
        for tables in (
                (FIRST, LAST), (LAST, FIRST), (VOTE, FIRST), (VOTE, MOST), (MOST, VOTE), (BEGINS, LAST), (FIRST, VOTE),
                (FIRST, LAST, VOTE), (VOTE, FIRST, LAST), (FIRST, FIRST, FIRST)):
            paper = find_tidy(*tables)
            counts = self.check(tables, [paper, *some_changed(source, paper, many=80)])
            found = [one + two for one, two in zip(found, counts)]
        self.assertGreater(min(found), 10, found)

    def test_rows_left_out_doubled_and_exchanged(self):
        for tables in ((VOTE, MOST), (FIRST, BEGINS), (FIRST, LAST, FIRST)):
            word, rows = find_tidy(*tables)
            values = [(word, rows[:at] + rows[at + 1:]) for at in range(len(rows))]
            values += [(word, rows[:at + 1] + rows[at:]) for at in range(len(rows))]
            values += [(word, rows[:at] + rows[at:at + 2][::-1] + rows[at + 2:]) for at in range(len(rows) - 1)]
            self.check(tables, values)

    def test_choices_exchanged(self):
        found = [0, 0]
        for tables in ((FIRST, LAST), (FIRST, FIRST), (MOST, VOTE), (BEGINS, LAST)):
            paper = find_tidy(*tables)
            counts = self.check(tables, list(flipped(paper)))
            found = [one + two for one, two in zip(found, counts)]
        self.assertGreater(min(found), 20, found)

    def test_ranks_and_letters_changed(self):
        for tables in ((VOTE, FIRST), (VOTE, MOST), (LAST, FIRST)):
            word, rows = find_tidy(*tables)
            values = []
            for at, (start, rank, letter) in enumerate(rows):
                others = [(start, other, letter) for other in (0, 1, 2, 3, 10 ** 59, -1, True, None)]
                others += [(start, rank, other) for other in plain_letters(start, "all")]
                others += [(start, rank + 5, other) for other in plain_letters(start, "all")]
                others += [(start, rank, other) for other in changed(letter)]
                values += [(word, (*rows[:at], other, *rows[at + 1:])) for other in others]
            found = self.check(tables, values)
            self.assertGreater(min(found), 3)

    def test_greater_papers(self):
        """Types that do not come about may be there, too, if they are right."""
        ranks = ((0, 0), (0, 1), (1, 0))
        types = [((0, 0), begins, ends, ()) for begins in ranks for ends in ranks]
        rows = tuple((start, ("leave",) * len(plain_letters(start, "all"))) for start in types)
        self.assertEqual(self.check((FIRST, LAST), [("serves", rows), ("serves", rows[1:]), ("serves", rows[::-1])]), [2, 1])
        rows = tuple((start, 7, (0, 0, 0)) for start in types)
        self.assertEqual(self.check((LAST, FIRST), [("fails", rows), ("fails", rows[:1]), ("fails", rows[3:])]), [1, 2])

    def test_other_values(self):
        for tables in ((FIRST, LAST), (LAST, FIRST), (FIRST, LAST, VOTE)):
            for value in (*any_values(), (), ("serves",), ("fails",), ("serves", ()), ("fails", ())):
                self.assertIs(tidy_holds(tables[0], tables[1:], value), False)
                for word in ("serves", "fails"):
                    self.assertIs(tidy_holds(tables[0], tables[1:], (word, value)), False)
                    self.assertIs(tidy_holds(tables[0], tables[1:], (word, (value,))), False)
                    self.assertIs(tidy_holds(tables[0], tables[1:], (word, ((first_type(2), value),))), False)
                    self.assertIs(tidy_holds(tables[0], tables[1:], (word, ((first_type(2), value, value),))), False)


class Arguments(unittest.TestCase):
    def test_arguments_are_not_changed(self):
        for tables in ((VOTE, LAST), (VOTE, FIRST), (FIRST, LAST, VOTE)):
            kept = deepcopy(tables)
            paper = find_tidy(*tables)
            self.assertEqual(find_tidy(*kept), paper)
            before = deepcopy(paper)
            self.assertIs(tidy_holds(tables[0], tables[1:], paper), True)
            self.assertEqual((tables, paper), (kept, before))


if __name__ == "__main__":
    unittest.main()
