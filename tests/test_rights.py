"""Promises 17 and 18: tables that are right with some false and some true pieces."""

import random
import unittest
from copy import deepcopy
from functools import lru_cache
from itertools import product

from fragweave.bounds import FALSE, TRUE
from fragweave.errors import BadCount
from fragweave.pieces import is_row, places_of
from fragweave.places import value_read
from fragweave.rights import find_right, laid_moves, price_of, right_from, right_holds, wrong_row
from fragweave.tables import entry_of, told_table
from tests.helpers import NAMES, SIGNS, any_values, plain_value, random_table
from tests.plain import changed, one_entry_changed, other_form, pieces_over, plain_read, plain_step, slow_table, some_changed

FIRST = told_table("first")
LAST = told_table("last")
VOTE = told_table("vote")
MOST = told_table("most")
KINDS = ("less", "true", "greater")


def counter(length):
    """A table that stays with its owner until another value was read so many times more often than its own one."""
    states = []
    for state in range(length):
        low = ("old", max(state - 1, 0))
        high = ("new", 0) if state == length - 1 else ("old", state + 1)
        states.append((high, low, high) * 9)
    return tuple(states)


def plain_values(kind, owner):
    """How a value of this kind can lie to that of an owner, tried with numbers, 0 being the value that was sent."""
    numbers = {"less": (-3, -2, -1), "true": (0,), "greater": (1, 2, 3)}
    return sorted({(one > other) - (one < other) + 1 for one in numbers[kind] for other in numbers[owner]})


def plain_moves(table, state, owner):
    """All moves over a standing, with what they lead to: (move, state, owner)."""
    for begin, end, kind in product(range(3), range(3), KINDS):
        for value in plain_values(kind, owner):
            who, following = entry_of(table, state, SIGNS[begin], SIGNS[end], SIGNS[value])
            yield (begin, end, kind, value), following, kind if who == "new" else owner


def plain_step_right(table, false, standing, move):
    """The standing behind a move, None if it is none or too many pieces are false."""
    if type(move) is not tuple or len(move) != 4 or any(type(move[at]) is not int for at in (0, 1, 3)):
        return None
    for possible, state, owner in plain_moves(table, standing[0], standing[1]):
        if possible == move:
            falses = standing[2] + (move[2] != "true")
            return (state, owner, falses) if falses <= false else None
    return None


def plain_firsts(false):
    """The standings behind first pieces."""
    return [(0, "true", 0)] + [(0, kind, 1) for kind in ("less", "greater") if false]


def plain_along(table, false, standing, moves):
    """The standing behind moves."""
    for move in moves if type(moves) is tuple else (None,):
        standing = None if standing is None else plain_step_right(table, false, standing, move)
    return standing


def wrong_with(table, false, most):
    """The set of the numbers of true pieces, up to this one, of rows that are read wrong, by all standings."""
    seen, left = set(), {(*standing, int(standing[1] == "true")) for standing in plain_firsts(false)}
    while left:
        seen |= left
        behind = set()
        for state, owner, falses, trues in left:
            for move, following, kind in plain_moves(table, state, owner):
                true = move[2] == "true"
                if falses + (not true) <= false:
                    behind.add((following, kind, falses + (not true), min(trues + true, most)))
        left = behind - seen
    return {trues for _, owner, _, trues in seen if owner != "true"}


@lru_cache(maxsize=None)
def plain_right_from(table, false, most=60):
    """right_from, for tables that are right from fewer true pieces on than most."""
    found = wrong_with(table, false, most)
    return None if most in found else max(found, default=-1) + 1


def fewest_wrong(table, false, true, most):
    """The fewest pieces over a place that are read wrong, by a trial of all, None if more than most."""
    layer = {(None, 0, 0)}
    for count in range(1, most + 1):
        behind = set()
        for holding, falses, trues in layer:
            for piece in pieces_over(2, values=7):
                new = (plain_step(table, holding, piece, 2), falses + (piece[1][0] != 3), trues + (piece[1][0] == 3))
                if new[1] > false:
                    continue
                if new[0][0][1][0] != 3 and new[2] >= true:
                    return count
                behind.add(new)
        layer = behind
    return None


def plain_from_holds(table, false, paper):
    """Whether six items are a paper with the word "from", by the words of the document."""
    word, enough, lefts, row, place, value = paper
    if word != "from" or type(enough) is not int or enough < 0 or type(lefts) is not tuple:
        return False
    for item in lefts:
        if type(item) is not tuple or len(item) != 4 or type(item[0]) is not int or type(item[2]) is not int:
            return False
        if not 0 <= item[0] < len(table) or item[1] not in KINDS or not 0 <= item[2] <= false:
            return False
        if not (item[3] is None and item[1] == "true" or type(item[3]) is int and item[3] >= 0):
            return False
    known = {item[:3]: item[3] for item in lefts}
    if [item[:3] for item in lefts] != sorted(known):
        return False
    for standing in plain_firsts(false):
        if standing not in known:
            return False
        if known[standing] is not None and enough <= known[standing] + (standing[1] == "true"):
            return False
    for state, owner, falses in known:
        for move, following, kind in plain_moves(table, state, owner):
            follower = (following, kind, falses + (move[2] != "true"))
            if follower[2] > false:
                continue
            if follower not in known:
                return False
            left, own = known[follower], known[state, owner, falses]
            if left is not None and (own is None or own < left + (move[2] == "true")):
                return False
    return plain_row_holds(table, false, enough, row, place, value)


def plain_row_holds(table, false, enough, row, place, value):
    """Whether the row of a paper with the word "from" is right."""
    if enough == 0:
        return (row, place, value) == (None, None, None)
    if not is_row(row) or type(place) is not int or place < 0 or type(value) is not int or not 0 <= value <= 10 ** 6:
        return False
    values = [plain_value(piece, place) for piece in row if plain_value(piece, place) is not None]
    trues = values.count(value)
    if not values or len(values) - trues > false or trues < enough - 1:
        return False
    return value_read(table, row, place) != value


def plain_right_holds(table, false, paper):
    """Whether any value is a right paper, by the words of the document."""
    if type(paper) is not tuple or len(paper) not in (5, 6):
        return False
    if len(paper) == 6:
        return plain_from_holds(table, false, paper)
    word, first, way, ring, rest = paper
    if word != "never" or first not in KINDS:
        return False
    start = [standing for standing in plain_firsts(false) if standing[1] == first]
    if not start:
        return False
    middle = plain_along(table, false, start[0], way)
    last = plain_along(table, false, middle, rest)
    if last is None or last[1] == "true" or plain_along(table, false, middle, ring) != middle or not ring:
        return False
    return all(move[2] == "true" for move in ring)


def tables_to_try(source):
    """The told tables, some forms of them, and others."""
    tables = [told_table(name) for name in NAMES]
    tables += [other_form(VOTE), other_form(MOST), one_entry_changed(source, VOTE), one_entry_changed(source, MOST)]
    tables += [counter(length) for length in (1, 2, 3, 6)] + [one_entry_changed(source, counter(3)) for _ in range(3)]
    return tables + [random_table(source, states=states) for states in (1, 2, 3)]


class RightFrom(unittest.TestCase):
    def test_told_tables(self):
        for name in NAMES:
            found = [right_from(told_table(name), false) for false in range(4)]
            expected = {"vote": [0, 2, None, None], "most": [0, 2, None, None]}.get(name, [0, None, None, None])
            self.assertEqual(found, expected, name)

    def test_counters(self):
        for length in (1, 2, 3, 6):
            for false in range(FALSE + 1):
                found = right_from(counter(length), false)
                self.assertEqual(found, plain_right_from(counter(length), false), (length, false))
        self.assertEqual(right_from(counter(6), 1), 6)
        self.assertEqual(right_from(counter(6), 2), 11)

    def test_after_the_words_of_the_document(self):
        source = random.Random(110)
        for table in tables_to_try(source):
            for false in (0, 1, 2, FALSE):
                self.assertEqual(right_from(table, false), plain_right_from(table, false))

    def test_price(self):
        source = random.Random(111)
        for table in tables_to_try(source)[::2]:
            enough = [plain_right_from(table, false) for false in range(FALSE + 1)]
            for true in (0, 1, 2, 3, 7, TRUE):
                wrong = [false for false in range(FALSE + 1) if enough[false] is None or true < enough[false]]
                self.assertEqual(price_of(table, true), wrong[0] if wrong else None)

    def test_a_price_of_none(self):
        self.assertEqual([price_of(FIRST, 0), price_of(MOST, 2), price_of(VOTE, 5)], [1, 2, 2])
        self.assertEqual([price_of(counter(6), true) for true in (0, 5, 6, 10, 11, TRUE)], [1, 1, 2, 2, 3, 6])


class WrongRow(unittest.TestCase):
    def check(self, table, false, true):
        found = wrong_row(table, false, true)
        enough = right_from(table, false)
        self.assertIs(found is None, enough is not None and true >= enough)
        if found is None:
            return None
        row, place, value = found
        self.assertTrue(is_row(row))
        self.assertTrue(all(place in places_of(piece) for piece in row))
        values = [plain_value(piece, place) for piece in row]
        self.assertLessEqual(len(values) - values.count(value), false)
        self.assertGreaterEqual(values.count(value), true)
        self.assertNotEqual(plain_read(table, row, place), value)
        self.assertTrue(type(value) is int and 0 <= value <= 10 ** 6)
        return len(row)

    def test_all_numbers_of_false_pieces(self):
        source = random.Random(112)
        for table in tables_to_try(source):
            for false in range(FALSE + 1):
                for true in (0, 1, 2, 5):
                    self.check(table, false, true)

    def test_the_fewest_pieces(self):
        source = random.Random(113)
        for table in tables_to_try(source):
            for false, true in ((1, 0), (1, 1), (2, 0), (2, 1), (1, 2)):
                count = self.check(table, false, true)
                fewest = count if count is not None and count <= 3 else None
                self.assertEqual(fewest_wrong(table, false, true, 3), fewest, (false, true))

    def test_many_pieces(self):
        source = random.Random(114)
        for table in (LAST, FIRST, told_table("least"), told_table("ranked"), random_table(source, states=6)):
            for false in (1, FALSE):
                count = self.check(table, false, TRUE)
                self.assertGreaterEqual(count or TRUE, TRUE)
        self.assertEqual(self.check(LAST, 1, TRUE), TRUE + 1)

    def test_pieces_that_begin_earlier_each_time(self):
        """A table that is wrong only behind 200 true pieces each of which begins ahead of the one before."""
        table = (tuple(("new" if at // 9 == 0 else "old", 0 if at // 9 == 0 or at % 3 != 1 else 1) for at in range(27)),
                 (("old", 1),) * 27)
        self.check(table, 1, TRUE)

    def test_slow_tables(self):
        source = random.Random(119)
        for _ in range(60):
            table = slow_table(source)
            for false, true in ((1, 0), (1, 3), (2, 6), (FALSE, 12)):
                self.check(table, false, true)
                self.assertIs(right_holds(table, false, find_right(table, false)), True)

    def test_none_where_the_table_is_right(self):
        for table in (FIRST, LAST, MOST):
            self.assertIsNone(wrong_row(table, 0, 0))
        self.assertIsNone(wrong_row(MOST, 1, 2))
        self.assertIsNone(wrong_row(counter(6), 2, 11))
        self.assertEqual(self.check(counter(6), 2, 10), 12)


class LaidMoves(unittest.TestCase):
    def test_rows_of_any_moves(self):
        """Each piece lies to the owner and to the value that was sent as its move tells."""
        source = random.Random(118)
        seen = set()
        for _ in range(300):
            table = random_table(source, states=source.randint(1, 3))
            kind = source.choice(KINDS)
            state, owner, moves = 0, kind, []
            for _ in range(source.randint(0, 6)):
                move, state, following = source.choice(list(plain_moves(table, state, owner)))
                seen.add((owner, *move[2:]))
                moves.append(move)
                owner = following
            self.check(table, kind, moves, state, owner)
        self.assertEqual(len(seen), sum(len(plain_values(kind, owner)) for kind in KINDS for owner in KINDS))

    def check(self, table, kind, moves, state, owner):
        row, place, value = laid_moves(table, kind, moves)
        self.assertTrue(is_row(row) and len(row) == len(moves) + 1)
        self.assertEqual([self.kind_of(piece, value) for piece in row], [kind, *[move[2] for move in moves]])
        holding = None
        for piece, move in zip(row, [None, *moves]):
            if move is not None:
                lies = [(piece[0], holding[0][0]), (piece[0] + len(piece[1]), holding[0][0] + len(holding[0][1])),
                        (piece[1][0], holding[0][1][0])]
                self.assertEqual([(one > other) - (one < other) + 1 for one, other in lies], [*move[:2], move[3]])
            holding = plain_step(table, holding, piece, place)
        self.assertEqual((holding[1], self.kind_of(holding[0], value)), (state, owner))

    def kind_of(self, piece, value):
        return "true" if piece[1][0] == value else "less" if piece[1][0] < value else "greater"


class FindRight(unittest.TestCase):
    def test_papers(self):
        source = random.Random(115)
        found = {"from": 0, "never": 0}
        for table in tables_to_try(source):
            for false in range(FALSE + 1):
                paper = find_right(table, false)
                found[paper[0]] += 1
                self.assertIs(right_holds(table, false, paper), True)
                self.assertIs(plain_right_holds(table, false, paper), True)
                enough = right_from(table, false)
                self.assertEqual(paper[:2] if paper[0] == "from" else None, None if enough is None else ("from", enough))
        self.assertGreater(min(found.values()), 20)

    def test_the_largest_tables(self):
        source = random.Random(116)
        for table in [random_table(source, states=6) for _ in range(10)] + [counter(6)]:
            for false in (0, 1, FALSE):
                paper = find_right(table, false)
                self.assertIs(right_holds(table, false, paper), True)


class RightHolds(unittest.TestCase):
    def check(self, table, false, value, found):
        expected = plain_right_holds(table, false, value)
        found[expected] += 1
        self.assertIs(right_holds(table, false, value), expected, (value, false))

    def test_parts_changed(self):
        source = random.Random(117)
        found = [0, 0]
        for table in (FIRST, LAST, VOTE, MOST, other_form(MOST), counter(3), random_table(source, states=2)):
            for false in (0, 1, 2, 6):
                paper = find_right(table, false)
                for value in [paper, *some_changed(source, paper, many=120)]:
                    self.check(table, false, value, found)
                for other in (0, 1, 3, 5):
                    self.check(table, other, paper, found)
        self.assertGreater(min(found), 60, found)

    def test_lefts_changed(self):
        found = [0, 0]
        for table in (MOST, VOTE, counter(3)):
            word, enough, lefts, *row = find_right(table, 1)
            for at, (state, owner, falses, _) in enumerate(lefts):
                for other in (None, 0, 1, 2, 3, 4, 9, True, -1):
                    changed_lefts = (*lefts[:at], (state, owner, falses, other), *lefts[at + 1:])
                    self.check(table, 1, (word, enough, changed_lefts, *row), found)
                self.check(table, 1, (word, enough, lefts[:at] + lefts[at + 1:], *row), found)
                self.check(table, 1, (word, enough, lefts[:at] + lefts[at:at + 1] * 2 + lefts[at + 1:], *row), found)
                self.check(table, 1, (word, enough, lefts[:at] + ((state, owner, falses, 7),) + lefts[at:], *row), found)
            for other in range(6):
                self.check(table, 1, (word, other, lefts, *row), found)
                self.check(table, 1, (word, other, lefts, None, None, None), found)
        self.assertGreater(min(found), 3, found)

    def test_more_standings(self):
        """Standings that do not come about may be there, too."""
        found = [0, 0]
        every = tuple((state, owner, falses, None if owner == "true" and falses == 1 and state == 9 else 3)
                      for state in range(2) for owner in ("greater", "less", "true") for falses in range(2))
        row = ((0, (5,), False), (0, (6,), True))
        for lefts in (every, every[:-1], every[1:]):
            for enough in (1, 2, 5, 6):
                self.check(VOTE, 1, ("from", enough, lefts, row, 0, 6), found)
        none = ((0, "true", 0, None),)
        self.check(FIRST, 0, ("from", 0, none, None, None, None), found)
        self.check(VOTE, 0, ("from", 0, (*none, (1, "true", 0, None)), None, None, None), found)
        self.check(VOTE, 0, ("from", 0, (*none, (1, "less", 0, 4)), None, None, None), found)
        self.check(FIRST, 0, ("from", 0, ((0, "greater", 0, 0), *none), None, None, None), found)
        self.check(FIRST, 0, ("from", 1, none, ((0, (5,), False),), 0, 5), found)
        self.check(FIRST, 0, ("from", 0, none, (), 0, 5), found)
        self.assertGreater(min(found), 2, found)

    def test_rows(self):
        found = [0, 0]
        word, enough, lefts, row, place, value = find_right(MOST, 1)
        more = ((0, (9,), False), (0, (9,), False))
        for other in (row, row + more, row[:-1], row + row, row + ((4000, (None,), True),), list(row), (), None):
            for at in (place, place + 1, 0, 10 ** 59, -1, True):
                for sent in (value, value + 1, 9, True, None, 10 ** 6 + 1, -1):
                    self.check(MOST, 1, (word, enough, lefts, other, at, sent), found)
        self.assertGreater(min(found), 1, found)

    def test_moves(self):
        found = [0, 0]
        ring = ((1, 1, "true", 2),)
        for first in (*KINDS, "False", True, None):
            for way in ((), ((1, 1, "less", 1),), ((1, 1, "greater", 2),), ((0, 2, "true", 2),), [], None):
                for loop in (ring, ring * 3, (), ((1, 1, "true", 1),), ((1, 1, "less", 1),), ((1, 1, "true", True),), None):
                    for rest in ((), ring, ((2, 2, "less", 0),), ((3, 2, "less", 0),), None):
                        for false in (1, 3):
                            self.check(FIRST, false, ("never", first, way, loop, rest), found)
        self.check(LAST, 1, ("never", "true", (), ((1, 1, "true", 1),), ((0, 0, "less", 0),)), found)
        self.check(LAST, 0, ("never", "true", (), ((1, 1, "true", 1),), ((0, 0, "less", 0),)), found)
        self.check(LAST, 1, ("never", "true", (), ((1, 1, "true", 1),), ()), found)
        for kind, owner in product(KINDS, KINDS):
            for value in range(-1, 4):
                first = ((0, 0, kind, value),)
                self.check(FIRST, 2, ("never", owner, first, ((1, 1, "true", (plain_values("true", owner))[0]),), first), found)
        self.assertGreater(min(found), 15, found)

    def test_other_values(self):
        for false in (0, 1):
            for value in (*any_values(), (), ("from",), ("never",), ("never", "true", (), (), ()), ("from", 0, (), None, None, None)):
                self.assertIs(right_holds(FIRST, false, value), False)
                self.assertIs(right_holds(FIRST, false, ("from", 0, value, None, None, None)), False)
                self.assertIs(right_holds(FIRST, false, ("from", 0, (value,), None, None, None)), False)
                self.assertIs(right_holds(FIRST, false, ("never", value, value, value, value)), False)
                self.assertIs(right_holds(FIRST, false, ("never", "true", (value,), (value,), (value,))), False)


class Counts(unittest.TestCase):
    def wrong(self, call, value):
        with self.assertRaises(BadCount) as caught:
            call()
        self.assertIs(caught.exception.value, value)

    def test_wrong_numbers(self):
        others = [value for value in any_values() if type(value) is not int] + [-1, 10 ** 59, FALSE + 0.0]
        for value in [*others, FALSE + 1, TRUE + 1]:
            self.wrong(lambda: wrong_row(FIRST, value, value), value)
            self.wrong(lambda: wrong_row(FIRST, value, 0), value)
            self.wrong(lambda: right_from(FIRST, value), value)
            self.wrong(lambda: find_right(FIRST, value), value)
            self.wrong(lambda: right_holds(FIRST, value, None), value)
            if value != FALSE + 1:
                self.wrong(lambda: wrong_row(FIRST, 0, value), value)
                self.wrong(lambda: price_of(FIRST, value), value)

    def test_the_greatest_numbers(self):
        self.assertEqual(right_from(FIRST, FALSE), None)
        self.assertEqual(price_of(LAST, TRUE), 1)
        self.assertIsNone(wrong_row(FIRST, 0, TRUE))
        self.assertIs(right_holds(FIRST, FALSE, find_right(FIRST, FALSE)), True)


class Arguments(unittest.TestCase):
    def test_arguments_are_not_changed(self):
        for table in (VOTE, counter(3)):
            kept = deepcopy(table)
            for false in (0, 1, 2):
                paper = find_right(table, false)
                self.assertEqual(find_right(kept, false), paper)
                before = deepcopy(paper)
                self.assertIs(right_holds(table, false, paper), True)
                self.assertEqual(wrong_row(table, false, 1), wrong_row(kept, false, 1))
                self.assertEqual((table, paper), (kept, before))
        self.assertGreater(len(changed(find_right(MOST, 1))), 100)


if __name__ == "__main__":
    unittest.main()
