"""Promise 24: the packets of all orders, and of all weaves, of given pieces."""

import random
import unittest
from copy import deepcopy
from itertools import combinations, permutations
from math import comb, factorial

from fragweave.errors import TooMany
from fragweave.orderings import orders_read, weaves_read
from fragweave.readers import Reader
from fragweave.tables import told_table
from tests.helpers import MARKS, NAMES, ROW, plain_packet, random_piece, random_row, random_table

FIRST = told_table("first")
LAST = told_table("last")
WHENS = ("late", "early")
ALL_READERS = [(mark, when) for mark in MARKS for when in WHENS]


def ordered(row, order):
    """The row with its pieces in this order."""
    return tuple(row[number] for number in order)


def weaves(many, other):
    """All weaves of so many pieces, in ascending order."""
    for ones in combinations(range(many + other), many):
        yield tuple(0 if at in ones else 1 for at in range(many + other))


def woven(row, other, weave):
    """The rows so woven."""
    left = [list(row), list(other)]
    return tuple(left[number].pop(0) for number in weave)


def gathered(mixes):
    """What is to be told of pairs (mix, packet) in ascending order of the mixes."""
    found = {}
    for mix, packet in mixes:
        found.setdefault(packet, []).append(mix)
    return tuple((packet, len(found[packet]), found[packet][0]) for packet in found)


def pieces_with_ends(source, many, *, most_end=3, values=2):
    """Pieces over few places, many of which have last, and some of which are alike."""
    pieces = [random_piece(source, most_end=most_end, values=values) for _ in range(many)]
    pieces = [(begin, items, last or source.random() < 0.4) for begin, items, last in pieces]
    return tuple(source.choice(pieces[:at + 1]) if source.random() < 0.3 else piece for at, piece in enumerate(pieces))


class OrdersRead(unittest.TestCase):
    def check_orders(self, table, row, readers, read=None):
        for mark, when in readers:
            reader = Reader(table, mark=mark, when=when)
            read_one = read or (lambda one: plain_packet(table, one, mark, when))
            wanted = gathered((order, read_one(ordered(row, order))) for order in permutations(range(len(row))))
            self.assertEqual(orders_read(reader, row), wanted, (row, mark, when))

    def test_rows_of_few_pieces(self):
        source = random.Random(24)
        for trial in range(120):
            table = random_table(source) if trial % 2 else told_table(source.choice(NAMES))
            row = random_row(source, most=4, most_end=4) if trial % 3 else pieces_with_ends(source, source.randint(1, 4))
            self.check_orders(table, row, ALL_READERS)

    def test_rows_of_five_and_six_pieces(self):
        source = random.Random(25)
        for many, trials in ((5, 16), (6, 4)):
            for _ in range(trials):
                table = random_table(source)
                self.check_orders(table, pieces_with_ends(source, many, values=3), source.sample(ALL_READERS, 2))

    def test_rows_of_seven_pieces(self):
        source = random.Random(26)
        for mark, when in ALL_READERS:
            table = random_table(source, states=6)
            row = pieces_with_ends(source, 7, most_end=4, values=3)
            self.check_orders(table, row, [(mark, when)], Reader(table, mark=mark, when=when))

    def test_no_piece_and_one(self):
        for mark, when in ALL_READERS:
            reader = Reader(FIRST, mark=mark, when=when)
            self.assertEqual(orders_read(reader, ()), ((None, 1, ()),))
            self.assertEqual(orders_read(reader, ((0, (5, 6), True),)), (((5, 6), 1, (0,)),))
            self.assertEqual(orders_read(reader, ((0, (5, None), True),)), ((None, 1, (0,)),))
            self.assertEqual(orders_read(reader, ((1, (5,), True),)), ((None, 1, (0,)),))

    def test_no_piece_has_last(self):
        for mark, when in ALL_READERS:
            self.assertEqual(orders_read(Reader(LAST, mark=mark, when=when), ROW[:2] * 2), ((None, 24, (0, 1, 2, 3)),))

    def test_alike_pieces_are_different_ones(self):
        row = ((0, (5,), True),) * 7
        self.assertEqual(orders_read(Reader(LAST), row), (((5,), factorial(7), tuple(range(7))),))
        row = ((0, (5,), True), (0, (6,), True), (0, (5,), True))
        self.assertEqual(orders_read(Reader(FIRST), row), (((5,), 4, (0, 1, 2)), ((6,), 2, (1, 0, 2))))
        self.assertEqual(orders_read(Reader(LAST), row), (((5,), 4, (0, 1, 2)), ((6,), 2, (0, 2, 1))))

    def test_early_and_late(self):
        row = ((1, (6,), True), (0, (5,), True), (0, (7, 7), False))
        self.assertEqual(orders_read(Reader(LAST, when="early"), row), (
            ((5, 6), 1, (0, 1, 2)), ((7, 7), 1, (0, 2, 1)), ((5,), 3, (1, 0, 2)), ((7, 6), 1, (2, 0, 1))))
        self.assertEqual(orders_read(Reader(LAST), row), (
            ((7, 7), 1, (0, 1, 2)), ((5, 7), 1, (0, 2, 1)), ((7,), 2, (1, 0, 2)), ((5, 6), 1, (2, 0, 1)),
            ((5,), 1, (2, 1, 0))))
        self.check_orders(LAST, row, ALL_READERS)

    def test_long_pieces_with_many_values(self):
        source = random.Random(27)
        for values, many in ((2, 4), (10 ** 6, 3)):
            row = tuple((source.randrange(3), tuple(source.randrange(values) for _ in range(300)), True) for _ in range(many))
            row += ((0, (1, 2, 3), False),)
            table = random_table(source, states=3)
            for mark, when in source.sample(ALL_READERS, 4):
                self.check_orders(table, row, [(mark, when)], Reader(table, mark=mark, when=when))

    def test_the_widest_pieces(self):
        row = tuple((0, (value,) * 5000, True) for value in range(7))
        found = orders_read(Reader(FIRST, mark="least"), row)
        self.assertEqual([(packet[0], len(packet), number, order[0]) for packet, number, order in found],
                         [(value, 5000, 720, value) for value in range(7)])

    def test_too_many(self):
        piece = (0, (5,), True)
        for many in (8, 9, 2000):
            with self.assertRaises(TooMany) as caught:
                orders_read(Reader(FIRST), (piece,) * many)
            self.assertEqual(caught.exception.limit, 7)

    def test_numbers_are_those_of_all_orders(self):
        source = random.Random(28)
        for many in range(8):
            row = pieces_with_ends(source, many)
            for mark, when in ALL_READERS:
                reader = Reader(random_table(source), mark=mark, when=when)
                found = orders_read(reader, deepcopy(row))
                self.assertEqual(sum(number for _, number, _ in found), factorial(many))
                self.assertEqual([order for *_, order in found], sorted(order for *_, order in found))
                self.assertEqual(len({packet for packet, *_ in found}), len(found))
                for packet, _, order in found:
                    self.assertEqual(reader(ordered(row, order)), packet)
                self.assertEqual(orders_read(reader, row), found)


class WeavesRead(unittest.TestCase):
    def check_weaves(self, table, row, other, readers, read=None):
        for mark, when in readers:
            reader = Reader(table, mark=mark, when=when)
            read_one = read or (lambda one: plain_packet(table, one, mark, when))
            wanted = gathered((weave, read_one(woven(row, other, weave))) for weave in weaves(len(row), len(other)))
            self.assertEqual(weaves_read(reader, row, other), wanted, (row, other, mark, when))

    def test_rows_of_few_pieces(self):
        source = random.Random(34)
        for trial in range(120):
            table = random_table(source) if trial % 2 else told_table(source.choice(NAMES))
            row, other = [pieces_with_ends(source, source.randint(0, 3), most_end=4, values=3) for _ in range(2)]
            self.check_weaves(table, row, other, ALL_READERS)

    def test_rows_of_some_pieces(self):
        source = random.Random(35)
        for many, other in ((5, 5), (8, 2), (1, 8), (0, 8), (6, 4)):
            rows = [pieces_with_ends(source, count, values=3) for count in (many, other)]
            self.check_weaves(random_table(source), *rows, source.sample(ALL_READERS, 2))

    def test_rows_of_eight_pieces(self):
        source = random.Random(36)
        for mark, when in (("first", "early"), ("least", "late")):
            table = random_table(source, states=6)
            rows = [pieces_with_ends(source, 8, most_end=4, values=3) for _ in range(2)]
            self.check_weaves(table, *rows, [(mark, when)], Reader(table, mark=mark, when=when))

    def test_no_pieces(self):
        reader = Reader(FIRST)
        self.assertEqual(weaves_read(reader, (), ()), ((None, 1, ()),))
        self.assertEqual(weaves_read(reader, ROW, ()), (((1, 2, 8), 1, (0, 0, 0)),))
        self.assertEqual(weaves_read(reader, (), ROW), (((1, 2, 8), 1, (1, 1, 1)),))

    def test_alike_pieces(self):
        piece = (0, (5,), True)
        for many in range(9):
            for other in range(9):
                found = weaves_read(Reader(LAST), (piece,) * many, (piece,) * other)
                self.assertEqual(found, (((5,) if many + other else None, comb(many + other, many), (0,) * many + (1,) * other),))

    def test_too_many(self):
        piece = (0, (5,), True)
        for many, other in ((9, 0), (0, 9), (9, 9), (8, 9), (9, 8), (2000, 1)):
            with self.assertRaises(TooMany) as caught:
                weaves_read(Reader(FIRST), (piece,) * many, (piece,) * other)
            self.assertEqual(caught.exception.limit, 8)

    def test_numbers_are_those_of_all_weaves(self):
        source = random.Random(37)
        for _ in range(20):
            row, other = [pieces_with_ends(source, source.randint(4, 8)) for _ in range(2)]
            mark, when = source.choice(ALL_READERS)
            reader = Reader(random_table(source), mark=mark, when=when)
            found = weaves_read(reader, deepcopy(row), deepcopy(other))
            self.assertEqual(sum(number for _, number, _ in found), comb(len(row) + len(other), len(row)))
            self.assertEqual([weave for *_, weave in found], sorted(weave for *_, weave in found))
            for packet, _, weave in found:
                self.assertEqual(reader(woven(row, other, weave)), packet)
            self.assertEqual(weaves_read(reader, row, other), found)


if __name__ == "__main__":
    unittest.main()
