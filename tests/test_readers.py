"""Promises 6 and 12: the texts of readers, readers that read all rows alike, and rows that they read unlike."""

import random
import unittest
from copy import deepcopy
from itertools import product
from unittest.mock import ANY

from fragweave.alike import are_alike, unlike_row
from fragweave.errors import BadText
from fragweave.pieces import is_row
from fragweave.readers import Reader
from fragweave.reading import read_moment
from fragweave.tables import told_table
from tests.helpers import MARKS, NAMES, ROW, any_values, plain_packet, random_row, random_table
from tests.plain import by_begin, one_entry_changed, other_form, slow_table, table_of

FIRST = told_table("first")
LAST = told_table("last")
VOTE = told_table("vote")
WHENS = ("late", "early")


def all_readers(table):
    """The eight readers with this table."""
    return [Reader(table, mark=mark, when=when) for mark in MARKS for when in WHENS]


def plain_alike(one, other):
    """Whether two readers read all rows alike, by the words of the document."""
    if one.mark != other.mark:
        return False
    if one.when == other.when and are_alike(one.table, other.table):
        return True
    return (one.mark == "first" and one.when != other.when
            and are_alike(one.table, FIRST) and are_alike(other.table, FIRST))


class Parse(unittest.TestCase):
    def check_wrong(self, value, number):
        with self.assertRaises(BadText) as caught:
            Reader.parse(value)
        self.assertIs(caught.exception.number, number)

    def test_texts_of_readers(self):
        source = random.Random(60)
        tables = [told_table(name) for name in NAMES] + [random_table(source, states=k) for k in range(1, 7)]
        for table in tables:
            for reader in all_readers(table):
                parsed = Reader.parse(str(reader))
                self.assertIsInstance(parsed, Reader)
                self.assertEqual((parsed.table, parsed.mark, parsed.when), (reader.table, reader.mark, reader.when))
                self.assertEqual(str(parsed), str(reader))

    def test_words_left_out_and_doubled(self):
        mark, when, text = words = str(Reader(VOTE, mark="least")).split(" ")
        for some, number in (
                ([mark], 1), ([mark, when], 2), ([when], 0), ([text], 0), ([mark, text], 1), ([when, text], 0),
                ([mark, mark, when, text], 1), ([mark, when, when, text], 2), ([mark, when, text, text], 3),
                ([when, mark, text], 0), ([mark, text, when], 1), ([text, when, mark], 0),
                ([*words, "x"], 3), ([*words, ""], 3), ([*words, *words], 3), ([mark, when, text, "", ""], 3)):
            self.check_wrong(" ".join(some), number)

    def test_words_changed(self):
        for reader in all_readers(VOTE):
            mark, when, text = str(reader).split(" ")
            for word in ("", "First", "late", "firs", "first\n", "-", "greatest,"):
                self.check_wrong(f"{word} {when} {text}", 0)
                self.check_wrong(f"{word} {word} {word} {word}", 0)
            for word in ("", "first", "Early", "later", "late\n"):
                self.check_wrong(f"{mark} {word} {text}", 1)
                self.check_wrong(f"{mark} {word}", 1)
            for word in ("", "-", text[:-1], text + "/", text + "o0", text.replace("o1", "o2"), text.upper(), "o0" * 26):
                self.check_wrong(f"{mark} {when} {word}", 2)
                self.check_wrong(f"{mark} {when} {word} {text}", 2)

    def test_blanks(self):
        text = str(Reader(LAST))
        self.check_wrong(" " + text, 0)
        self.check_wrong(text + " ", 3)
        self.check_wrong(text.replace("first ", "first  "), 1)
        self.check_wrong(text.replace("late ", "late  "), 2)
        self.check_wrong(text.replace(" ", "\n"), 0)
        for value in ("", " ", "  "):
            self.check_wrong(value, 0)

    def test_any_value(self):
        for value in any_values():
            self.check_wrong(value, (1 if value == "first" else 0) if isinstance(value, str) else None)
        for value in (str(Reader(LAST)).encode(), [str(Reader(LAST))], Reader(LAST)):
            self.check_wrong(value, None)


class Equality(unittest.TestCase):
    def check(self, one, other):
        expected = plain_alike(one, other)
        for left, right in ((one, other), (other, one)):
            self.assertIs(left == right, expected, (str(one), str(other)))
            self.assertIs(left != right, not expected)
        self.assertIs(unlike_row(one, other) is None, expected)
        return expected

    def test_marks_and_whens(self):
        for one, other in product(all_readers(VOTE), repeat=2):
            self.assertIs(self.check(one, other), str(one) == str(other))

    def test_the_mark_first(self):
        """Of readers with the mark "first" and tables like "first" the when does not matter."""
        for table, other in product((FIRST, other_form(FIRST), FIRST + LAST), repeat=2):
            for one, two in product(all_readers(table), all_readers(other)):
                alike = one.mark == two.mark and ("first" == one.mark or one.when == two.when)
                self.assertIs(self.check(one, two), alike)

    def test_told_tables(self):
        for one, other in product(NAMES, repeat=2):
            for mark, when, other_when in product(("first", "last"), WHENS, WHENS):
                self.check(Reader(told_table(one), mark=mark, when=when),
                           Reader(told_table(other), mark=mark, when=other_when))

    def test_other_forms(self):
        source = random.Random(61)
        for table in [told_table(name) for name in NAMES] + [random_table(source) for _ in range(8)]:
            other = other_form(table)
            for mark, when in product(MARKS, WHENS):
                one = Reader(table, mark=mark, when=when)
                self.assertTrue(self.check(one, Reader(other, mark=mark, when=when)))
                self.check(one, Reader(one_entry_changed(source, other), mark=mark, when=when))

    def test_anything_else(self):
        for reader in (Reader(FIRST), Reader(VOTE, mark="last", when="early")):
            for value in (*any_values()[:-6], reader.table, str(reader), (reader,), [reader], ANY, "all"):
                self.assertIs(reader == value, False)
                self.assertIs(reader != value, True)


class UnlikeRow(unittest.TestCase):
    def check(self, one, other):
        """The length of the row, which the readers read unlike, also by readings made a second way."""
        row = unlike_row(one, other)
        if row is None:
            self.assertTrue(plain_alike(one, other))
            return None
        self.assertTrue(is_row(row))
        packets = [plain_packet(reader.table, row, reader.mark, reader.when) for reader in (one, other)]
        self.assertNotEqual(*packets)
        self.assertEqual([one(row), other(row)], packets)
        return len(row)

    def test_marks_and_whens(self):
        for table in (FIRST, LAST, VOTE):
            for one, other in product(all_readers(table), repeat=2):
                count = self.check(one, other)
                if one.mark != other.mark or one.mark != "first" and one.when != other.when:
                    self.assertEqual(count, 2)

    def test_late_and_early_with_the_mark_first(self):
        counts = {name: self.check(Reader(told_table(name)), Reader(told_table(name), when="early")) for name in NAMES}
        self.assertEqual(counts, {"first": None, "last": 2, "begins": 3, "ends": 2, "cover": 2, "inner": 2, "least": 2,
                                  "ranked": 2, "vote": 3, "most": 3})

    def test_a_piece_more_only_where_it_is_needed(self):
        """An owner may be passed by a piece that begins ahead of it, if some other piece begins there, too."""
        alone = table_of(by_begin(less="n0"))
        behind = table_of(by_begin(less="o1"), by_begin(less="n0", equal="n0", greater="n0"))
        twice = table_of(by_begin(less="o1"), by_begin(less="n0"))
        equal = table_of(by_begin(less="n1"), by_begin(less="n1", equal="n1"))
        late = table_of(by_begin(equal="o1", greater="o1"), by_begin(less="n0"))
        for table, count in ((alone, 3), (behind, 3), (twice, 3), (equal, 3), (late, 4)):
            self.assertEqual(self.check(Reader(table), Reader(table, when="early")), count)
            self.check_fewest(table, count)
        # An equal value is taken that begins later, then a piece between the first two: its owner is not the first one.
        later = table_of({19: "n1", 22: "n1", 25: "n1"}, by_begin(less="n1"))
        self.assertEqual(self.check(Reader(later), Reader(later, when="early")), 3)
        self.check_fewest(later, 3)
        # The same with a piece of an equal value that begins just with the first one, or ends elsewhere.
        for taken in ((10, 13, 16), (10,), (22,), (25,), (1,)):
            other = table_of({at: "n1" for at in taken}, by_begin(less="n1"))
            self.check(Reader(other), Reader(other, when="early"))
        # Two such pieces one behind the other, and then one that begins with the owner.
        other = table_of({22: "n1"}, {22: "n2"}, by_begin(equal="n2"))
        self.assertEqual(self.check(Reader(other), Reader(other, when="early")), 4)
        for table, other, count in ((FIRST, alone, 2), (alone, FIRST, 2), (twice, FIRST, 3), (FIRST, twice, 3)):
            self.assertEqual(self.check(Reader(table), Reader(other, when="early")), count)

    def check_fewest(self, table, count):
        """No row of fewer pieces, among all with few begins and values, is read unlike by a late and an early reader."""
        pieces = [(begin, (value,) * (2 - begin), last) for begin in (0, 1) for value in (0, 1) for last in (False, True)]
        pieces += [(0, (0,), False), (0, (0,), True)]
        found = [many for many in range(count + 1) if any(
            Reader(table)(row) != Reader(table, when="early")(row) for row in product(pieces, repeat=many))]
        self.assertEqual(found, [count])

    def test_told_tables(self):
        for one, other in product(NAMES, repeat=2):
            for mark, when, other_when in product(("first", "greatest"), WHENS, WHENS):
                self.check(Reader(told_table(one), mark=mark, when=when),
                           Reader(told_table(other), mark=mark, when=other_when))

    def test_random_tables(self):
        source = random.Random(62)
        for _ in range(150):
            table = random_table(source)
            other = one_entry_changed(source, other_form(table)) if source.random() < 0.5 else random_table(source)
            mark, when, other_when = source.choice(MARKS), source.choice(WHENS), source.choice(WHENS)
            self.check(Reader(table, mark=mark, when=when), Reader(other, mark=mark, when=other_when))

    def test_slow_tables(self):
        source = random.Random(67)
        for _ in range(60):
            table = slow_table(source)
            for other in (FIRST, other_form(table), slow_table(source), one_entry_changed(source, table)):
                for when, other_when in product(WHENS, WHENS):
                    self.check(Reader(table, when=when), Reader(other, when=other_when))

    def test_the_fewest_pieces(self):
        """No row with fewer pieces, among all with few places and values, is read unlike."""
        spans = [(begin, end) for begin in range(3) for end in range(begin + 1, 4)]
        pieces = [(begin, (value,) * (end - begin), last) for begin, end in spans for value in (0, 1) for last in (False, True)]
        readers = [Reader(told_table(name), when=when) for name in NAMES for when in WHENS]
        read = {}
        for at, reader in enumerate(readers):
            read[at] = {count: [reader(row) for row in product(pieces, repeat=count)] for count in (0, 1, 2)}
        for one, other in product(range(len(readers)), repeat=2):
            unlike = [count for count in (0, 1, 2) if read[one][count] != read[other][count]]
            row = unlike_row(readers[one], readers[other])
            if row is None or len(row) > 2:
                self.assertEqual(unlike, [])
            else:
                self.assertEqual(unlike[0], len(row))

    def test_rows_that_are_read_alike(self):
        source = random.Random(63)
        for name in NAMES:
            table = told_table(name)
            for one, other in zip(all_readers(table), all_readers(other_form(table))):
                for _ in range(20):
                    row = random_row(source, most_end=4)
                    self.assertEqual(one(row), other(row))
        for _ in range(200):
            row = random_row(source, most_end=4)
            self.assertEqual(Reader(FIRST)(row), Reader(other_form(FIRST), when="early")(row))

    def test_the_largest_tables(self):
        source = random.Random(64)
        for _ in range(5):
            table = tuple(
                tuple((source.choice(("old", "new")) if at % 3 == 1 else "old", source.randrange(6)) for at in range(27))
                for _ in range(6))
            other = table[:5] + (table[5][:26] + (("new", 5),),)
            for mark, when in product(("first", "last"), WHENS):
                self.check(Reader(table, mark=mark), Reader(other, mark=mark, when=when))
                self.check(Reader(other, mark=mark), Reader(table, mark=mark, when=when))

    def test_arguments_are_not_changed(self):
        one, other = Reader(VOTE), Reader(LAST, when="early")
        kept = deepcopy((one.table, other.table))
        self.assertEqual(unlike_row(one, other), unlike_row(one, other))
        self.assertEqual((one.table, other.table), kept)
        self.assertEqual(str(one), str(Reader(VOTE)))


class LongRows(unittest.TestCase):
    """Rows of 2000 pieces over the same few places."""

    def packets(self, row, table):
        """What the eight readers read, and when."""
        return [reader(row) for reader in all_readers(table)]

    def test_the_row_that_took_longest(self):
        row = tuple([(k % 3, (k % 7,), k == 1999) for k in range(2000)])
        packets = {"first": (0, 1), "last": (3, 4), "begins": (0, 1), "ends": (0, 1), "cover": (0, 1), "inner": (0, 1),
                   "least": (0, 0), "ranked": (0, 0), "vote": (3, 4), "most": (6, 0)}
        for name in NAMES:
            readers = all_readers(told_table(name))
            self.assertEqual(self.packets(row, told_table(name)), [packets[name]] * 8, name)
            self.assertEqual([read_moment(reader, row) for reader in readers], [2000] * 8)
            self.assertEqual(self.packets(row[:-1], told_table(name)), [None] * 8)
            self.assertEqual([read_moment(reader, row[:-1]) for reader in readers], [None] * 8)

    def test_after_the_words_of_the_document(self):
        source = random.Random(65)
        few = [(0, (1, 2, None), False), (1, (3,), False), (2, (4, 5), False), (0, (None, 9), False), (1, (2, 2), False)]
        for name in ("vote", "most", "cover", "least"):
            for lasts in ((), (40,), (399,), (7, 300), tuple(range(400))):
                row = tuple((*source.choice(few)[:2], at in lasts) for at in range(400))
                for reader in all_readers(told_table(name)):
                    self.assertEqual(reader(row), plain_packet(reader.table, row, reader.mark, reader.when))

    def test_many_unlike_pieces(self):
        source = random.Random(66)
        for most_end, count in ((3, 900), (40, 300)):
            row = random_row(source, most=0)
            while len(row) < count:
                begin = source.randrange(most_end)
                width = source.randint(1, most_end - begin)
                row += ((begin, tuple(source.choice((None, 1, 2, 500)) for _ in range(width)), len(row) % 97 == 50),)
            for name in ("vote", "ranked"):
                for mark, when in product(("last", "least"), WHENS):
                    reader = Reader(told_table(name), mark=mark, when=when)
                    self.assertEqual(reader(row), plain_packet(reader.table, row, mark, when))


class Row(unittest.TestCase):
    def test_the_readers_of_one_row(self):
        self.assertEqual(Reader(LAST)(ROW), (1, 7, 3))


if __name__ == "__main__":
    unittest.main()
