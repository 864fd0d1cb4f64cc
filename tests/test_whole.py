"""Promises 2, 3, 11 and 15, over the whole program: what holds for all functions and classes together."""

import random
import unittest
from copy import deepcopy
from itertools import combinations

from fragweave import errors
from fragweave.alike import alike_holds, are_alike, find_alike, unlike_row
from fragweave.changes import changes_hold, find_changes
from fragweave.classes import is_in
from fragweave.consoles import Console
from fragweave.covers import cover_holds, find_cover
from fragweave.houses import House, StrictHouse
from fragweave.making import blinded, mirrored, mirrored_row, renumbered, then_table
from fragweave.mending import mend_numbers, mends
from fragweave.merging import alike_states, merged, trimmed
from fragweave.orderings import orders_read, weaves_read
from fragweave.orders import find_order, order_holds
from fragweave.pieces import end_of, is_piece, is_row, over, places_of, stretched, value_at
from fragweave.places import owner_at, steps_at, value_read
from fragweave.readers import Reader
from fragweave.readertexts import parse_table, table_text
from fragweave.reading import Reading, end_that_counts, is_whole, read_moment
from fragweave.rights import find_right, price_of, right_from, right_holds, wrong_row
from fragweave.rowtexts import parse_piece, parse_row, piece_text, row_text
from fragweave.rules import Rule
from fragweave.settled import distances, settled, sure_at
from fragweave.tables import entry_of, table_error, told_table
from fragweave.telling import apart_by, find_packet, groups_of, packet_holds
from fragweave.tidiers import Tidier
from fragweave.tidy import find_tidy, tidy_holds
from fragweave.twices import find_twice, twice_holds
from fragweave.types import first_type, is_type, letters_of, next_type
from tests.helpers import MARKS, NAMES, ROW, any_values, random_row, random_table
from tests.plain import changed, many_tables, one_entry_changed, other_form, shuffled

FIRST, LAST, BEGINS, VOTE, MOST = [told_table(name) for name in ("first", "last", "begins", "vote", "most")]
PIECE = (0, (5, None, 7), True)
START = first_type(2)
HOLDS = {
    "alike_holds": lambda value: alike_holds(FIRST, VOTE, value), "order_holds": lambda value: order_holds(FIRST, value),
    "twice_holds": lambda value: twice_holds(LAST, value), "tidy_holds": lambda value: tidy_holds(FIRST, (LAST,), value),
    "right_holds": lambda value: right_holds(MOST, 1, value), "cover_holds": lambda value: cover_holds(FIRST, MOST, 1, value),
    "changes_hold": lambda value: changes_hold(MOST, value), "packet_holds": lambda value: packet_holds((FIRST, LAST), value),
    "is_piece": is_piece, "is_row": is_row, "is_type": lambda value: is_type((FIRST, VOTE), value), "is_name": House.is_name,
}
# Papers that hold, one for each function that accepts papers.
PAPERS = {
    "alike_holds": find_alike(FIRST, VOTE), "order_holds": find_order(FIRST), "twice_holds": find_twice(LAST),
    "tidy_holds": find_tidy(FIRST, LAST), "right_holds": find_right(MOST, 1), "cover_holds": find_cover(FIRST, MOST, 1),
    "changes_hold": find_changes(MOST), "packet_holds": find_packet((FIRST, LAST)), "is_piece": PIECE, "is_row": ROW,
    "is_type": START, "is_name": "abc",
}


def calls():
    """Calls of all functions: (function, arguments, keywords)."""
    tables = (FIRST, LAST, BEGINS)
    one_table = (mirrored, trimmed, merged, alike_states, distances, settled, find_changes, table_text, table_error, find_order, find_twice)
    two_tables = (are_alike, find_alike, find_tidy, mend_numbers, mends)
    return [
        *[(function, (table,), {}) for function in one_table for table in (VOTE, MOST)],
        *[(function, (one, other), {}) for function in two_tables for one, other in ((FIRST, VOTE), (VOTE, BEGINS))],
        (end_of, (PIECE,), {}), (places_of, (PIECE,), {}), (value_at, (PIECE, 2), {}), (over, (ROW, 1), {}), (piece_text, (PIECE,), {}),
        (stretched, (ROW, (1, 2, 4, 5)), {}), (row_text, (ROW,), {}), (parse_piece, ("0:1",), {}), (parse_row, ("0:1 1:2!",), {}),
        (told_table, ("most",), {}), (entry_of, (MOST, 2, "<", "=", ">"), {}), (parse_table, (table_text(MOST),), {}),
        (steps_at, (VOTE, ROW, 1), {}), (owner_at, (VOTE, ROW, 1), {}), (value_read, (VOTE, ROW, 1), {}),
        (end_that_counts, (ROW, "least"), {}), (is_whole, (ROW, "last"), {}), (read_moment, (Reader(VOTE, when="early"), ROW), {}),
        (is_in, (ROW, "nested"), {}), (first_type, (3,), {"rows": "ends"}), (letters_of, (START,), {"rows": "stairs"}),
        (next_type, ((FIRST, LAST), START, (0, 1, 1)), {}), (unlike_row, (Reader(FIRST), Reader(VOTE)), {}),
        (wrong_row, (MOST, 1, 1), {}), (right_from, (MOST, 1), {}), (price_of, (VOTE, 5), {}), (find_right, (LAST, 1), {}),
        (find_cover, (LAST, FIRST, 1), {}), (sure_at, (MOST, ROW, 1), {}), (orders_read, (Reader(VOTE), ROW), {}),
        (weaves_read, (Reader(LAST), ROW, ROW[1:]), {}), (mirrored_row, (ROW, 9), {}), (renumbered, (MOST, (0, 2, 1)), {}),
        (then_table, (FIRST, 3, LAST), {}), (blinded, (MOST, "begins", "values"), {}), (groups_of, (tables,), {}),
        (apart_by, (tables, ROW), {}), (find_packet, (tables,), {}), *[(HOLDS[name], (PAPERS[name],), {}) for name in HOLDS]]


def only_plain(value):
    """Whether a value cannot be changed."""
    if isinstance(value, tuple):
        return all(map(only_plain, value))
    return value is None or isinstance(value, (bool, int, str))


class Calls(unittest.TestCase):
    def test_arguments_are_not_changed_and_equal_calls_give_equal_results(self):
        for function, arguments, keywords in calls():
            with self.subTest(function=function, arguments=str(arguments)[:80]):
                before = deepcopy(arguments)
                found = function(*arguments, **keywords)
                self.assertEqual(arguments, before)
                self.assertEqual(repr(function(*deepcopy(arguments), **keywords)), repr(found))
                self.assertTrue(only_plain(found))

    def test_results_do_not_change_by_later_calls(self):
        found = [(function(*arguments, **keywords)) for function, arguments, keywords in calls()]
        kept = deepcopy(found)
        for function, arguments, keywords in calls()[::-1]:
            function(*arguments, **keywords)
        self.assertEqual(repr(found), repr(kept))

    def test_objects_do_not_change_by_others(self):
        reader = Reader(VOTE, when="early")
        reading, tidier, house = Reading(reader), Tidier(FIRST, LAST), House(reader)
        for name, piece in zip("aab", ROW):
            reading.put(piece)
            tidier.put(piece)
            house.come(name, piece)
        kept = [reading.row, reading.told, reading.owners(), reading.states(), tidier.row, tidier.passed, house.told, house.edits()]
        shown = repr(kept)
        others = reading.copy(), tidier.copy(), house.copy()
        for other in others[:2]:
            other.back()
        others[2].undo()
        reading.back()
        tidier.put(PIECE)
        house.wait(9)
        self.assertEqual(repr(kept), shown)
        self.assertEqual((str(reader), reader.table), (f"first early {table_text(VOTE)}", VOTE))


class AnyValues(unittest.TestCase):
    def check_only(self, wanted, function, *arguments, **keywords):
        try:
            function(*arguments, **keywords)
        except wanted as error:
            self.assertIn(error.__class__, wanted)

    def values(self):
        """Any values, results of the package, and results with one part changed."""
        source = random.Random(3)
        made = [Rule(FIRST), House(Reader(LAST)), StrictHouse(Reader(LAST)), Reading(Reader(FIRST)), Tidier(FIRST, LAST)]
        parts = [value for paper in PAPERS.values() for value in source.sample(changed(paper), min(8, len(changed(paper))))]
        parts += [(*paper[:-1], made[0]) for paper in PAPERS.values() if isinstance(paper, tuple)]
        return [*any_values(), *made, *parts, *[(one, one) for one in made], mend_numbers(FIRST, VOTE), MOST]

    def test_what_accepts_any_value_answers(self):
        for value in self.values():
            for name, holds in HOLDS.items():
                self.assertIn(holds(value), (True, False), name)
            error = table_error(value)
            self.assertTrue(error is None or isinstance(error, tuple) and len(error) == 3)
            for thing in (Rule(VOTE), House(Reader(VOTE))):
                self.assertIn(value in thing, (True, False))
                self.assertIn(thing == value, (True, False))
            self.assertIn(Reader(FIRST) == value, (True, False))
            self.assertIsInstance(Console(House(Reader(FIRST))).execute(value), str)

    def test_papers_are_accepted(self):
        for name, holds in HOLDS.items():
            self.assertIs(holds(PAPERS[name]), True, name)

    def test_no_other_error_is_raised(self):
        house = House(Reader(LAST))
        for value in self.values():
            for wanted, function, arguments in (
                    (errors.BadText, parse_piece, (value,)), (errors.BadText, parse_row, (value,)), (errors.BadText, parse_table, (value,)),
                    (errors.BadText, Reader.parse, (value,)), (errors.NoTable, told_table, (value,)), (errors.BadRows, is_in, (ROW, value)),
                    (errors.BadTable, Reader, (value,)), (errors.BadTable, Rule, (value,)), (errors.BadCount, wrong_row, (FIRST, value, 0)),
                    (errors.BadCount, wrong_row, (FIRST, 0, value)), (errors.BadCount, right_from, (FIRST, value)),
                    (errors.BadCount, price_of, (FIRST, value)), (errors.BadCount, find_right, (FIRST, value)),
                    (errors.BadCount, find_cover, (FIRST, FIRST, value)), (errors.BadWord, blinded, (FIRST, value)),
                    (errors.BadPiece, Reading(Reader(FIRST)).put, (value,)), (errors.BadPiece, Tidier(FIRST, LAST).put, (value,)),
                    (errors.BadReader, House, (value,)), (errors.NoPacket, house.pieces_of, (value,)), (errors.NoPacket, house.__getitem__, (value,)),
                    (errors.NoEntry, Rule(FIRST).__getitem__, (value,)), (errors.BadBatch, house.attempt, (value,))):
                self.check_only((wanted,), function, *arguments)
            self.check_only((errors.BadCount, errors.TooMany), then_table, FIRST, value, LAST)
            self.check_only((errors.BadMark,), Reader, FIRST, mark=value)
            self.check_only((errors.BadWhen,), Reader, FIRST, when=value)
            self.check_only((errors.BadRoom,), House, Reader(FIRST), room=value)
            self.check_only((errors.BadPatience,), House, Reader(FIRST), patience=value)
            self.check_only((errors.BadRows,), first_type, 2, rows=value)
            self.check_only((errors.BadName, errors.NoPacket), house.close, value)
            self.check_only((errors.BadName,), House(Reader(FIRST)).come, value, PIECE)
            self.check_only((errors.BadPiece,), House(Reader(FIRST)).come, "a", value)
            self.check_only((errors.BadTicks,), House(Reader(FIRST)).wait, value)


class Equal(unittest.TestCase):
    def test_equal_readers_and_rules_read_alike(self):
        source = random.Random(11)
        rows = [random_row(source, most=6, most_end=4) for _ in range(25)]
        tables = [told_table(name) for name in NAMES] + [random_table(source, states=2) for _ in range(2)]
        tables += [other_form(table) for table in tables[-4:]] + [shuffled(source, table, 3) for table in tables[:2]]
        tables += [one_entry_changed(source, table) for table in tables[-3:]]
        readers = [Reader(table, mark=mark, when=when) for table in tables for mark, when in (("first", "late"), ("first", "early"), ("last", "late"))]
        equal = 0
        for one, other in combinations(readers, 2):
            if one == other:
                equal += 1
                self.assertEqual([one(row) for row in rows], [other(row) for row in rows])
                self.assertIsNone(unlike_row(one, other))
        self.assertGreater(equal, 15)
        for one, other in combinations(tables, 2):
            self.assertIs(Rule(one) == Rule(other), are_alike(one, other))
            self.assertIs(Reader(one) == Reader(other), are_alike(one, other))

    def test_alike_in_all_is_alike_in_each_class(self):
        source = random.Random(12)
        for table in many_tables(source, 2):
            other = merged(table)
            for rows in ("all", "nested", "stairs", "begins", "ends"):
                self.assertTrue(are_alike(table, other, rows=rows))

    def test_alike_tables_answer_alike(self):
        source = random.Random(13)
        for table in many_tables(source, 2):
            other = merged(table)
            self.assertEqual(distances(table)[0], distances(other)[0])
            self.assertEqual(find_changes(table)[0], find_changes(other)[0])
            self.assertEqual(mends(table, other), 0)
            self.assertEqual(groups_of((table, other, table)), ((0, 1, 2),))
            self.assertEqual([right_from(table, false) for false in range(3)], [right_from(other, false) for false in range(3)])


class ReadersOfOrders(unittest.TestCase):
    ENDS = ((0, (5,), True), (0, (5, 5), True))

    def packets(self, reader, row):
        """The packets of all orders of a row."""
        return {packet for packet, *_ in orders_read(reader, row)}

    def test_readers_that_are_never_free_of_order(self):
        for table in [told_table(name) for name in NAMES]:
            for mark in MARKS:
                self.assertEqual(self.packets(Reader(table, mark=mark, when="early"), self.ENDS), {(5,), (5, 5)})
                late = {(5,), (5, 5)} if mark in ("first", "last") else {(5,)} if mark == "least" else {(5, 5)}
                self.assertEqual(self.packets(Reader(table, mark=mark), self.ENDS), late)

    def test_late_readers_are_free_if_their_tables_are(self):
        source = random.Random(15)
        free = [told_table(name) for name in NAMES if find_order(told_table(name))[0] == "free"]
        self.assertGreater(len(free), 0)
        for table in free:
            for mark in ("least", "greatest"):
                for _ in range(30):
                    self.assertEqual(len(self.packets(Reader(table, mark=mark), random_row(source, most=5, most_end=3))), 1)

    def test_late_readers_are_bound_if_their_tables_are(self):
        bound = [find_order(told_table(name)) for name in NAMES]
        for name, paper in zip(NAMES, bound):
            if paper[0] == "bound":
                # Pieces beside the place cover all that is ahead of it, and the end.
                _, row, _, place = paper
                end = max(begin + len(values) for begin, values, _ in row)
                beside = (((0, (0,) * place, False),) if place else ()) + ((place + 1, (0,) * (end - place), True),)
                for mark in ("least", "greatest"):
                    self.assertGreater(len(self.packets(Reader(told_table(name), mark=mark), (*row, *beside))), 1, name)

    def test_the_mark_last_is_never_free_of_twice(self):
        for table in [told_table(name) for name in NAMES]:
            reader = Reader(table, mark="last")
            self.assertEqual((reader(self.ENDS), reader((*self.ENDS, self.ENDS[0]))), ((5, 5), (5,)))


if __name__ == "__main__":
    unittest.main()
