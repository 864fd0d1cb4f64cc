"""The document's examples, as they stand there, by the promises that they show, and those of the README."""

import doctest
import unittest

from tests.helpers import check_example

POINT_4 = (
    """
    >>> from fragweave.pieces import is_piece, is_row
    >>> [is_piece((0, (5, None, 7), True)), is_piece((0, (), True)), is_piece((0, (-1,), True)), is_piece((True, (5,), True)), is_row(ROW), is_row(list(ROW))]
    [True, False, False, False, True, False]
    """,
    """
    >>> from fragweave.pieces import end_of, over, places_of, value_at
    >>> [end_of((2, (5, None, 7), False)), places_of((2, (5, None, 7), False)), value_at((2, (5, None, 7), False), 4), over(ROW, 1), over(ROW, 7)]
    [5, (2, 4), 7, (0, 1), ()]
    """,
    """
    >>> from fragweave.pieces import stretched
    >>> stretched(((0, (5, 6), False), (1, (None, 7), True)), (1, 2, 4, 5))
    ((1, (5, 6, 6), False), (2, (None, None, 7), True))
    """,
    """
    >>> from fragweave.rowtexts import parse_row, row_text
    >>> [row_text(ROW), parse_row("3:9!"), parse_row("-")]
    ['0:1,2 1:7,8 2:3!', ((3, (9,), True),), ()]
    """,
    """
    >>> from fragweave.rowtexts import parse_row
    >>> parse_row("0:1,2  1:7")
    raises BadText(1)
    """,
)

POINT_5 = (
    """
    >>> from fragweave.tables import entry_of, table_error
    >>> [table_error(()), table_error((FIRST[0][:26],)), table_error((FIRST[0][:5] + (("old", 1),) + FIRST[0][6:],)), entry_of(BEGINS, 0, "<", ">", "=")]
    [(None, None, 'table'), (0, None, 'state'), (0, 5, 'entry'), ('new', 0)]
    """,
    """
    >>> from fragweave.tables import told_table
    >>> [len(told_table("most")), told_table("cover")[0][3], told_table("cover")[0][13], told_table("ranked")[0][12]]
    [3, ('new', 0), ('old', 0), ('new', 0)]
    """,
    """
    >>> from fragweave.readertexts import parse_table, table_text
    >>> [table_text(FIRST) == "o0" * 27, parse_table("o0" * 26 + "n0") == (FIRST[0][:26] + (("new", 0),),)]
    [True, True]
    """,
    """
    >>> from fragweave.readertexts import parse_table
    >>> parse_table("o0o1" + "o0" * 25)
    raises BadText(54)
    """,
)

POINT_6 = (
    """
    >>> from fragweave.readers import Reader
    >>> [Reader(FIRST)(ROW), Reader(LAST)(ROW), Reader(LAST)(ROW[:2]), Reader(FIRST, mark="least").mark]
    [(1, 2, 8), (1, 7, 3), None, 'least']
    """,
    """
    >>> from fragweave.readers import Reader
    >>> Reader(FIRST, mark="next", when=0)
    raises BadMark('next')
    """,
    """
    >>> from fragweave.reading import end_that_counts, is_whole, read_moment
    >>> from fragweave.readers import Reader
    >>> EARLY = ((1, (6,), True), (0, (5,), True), (0, (7, 7), False))
    >>> [end_that_counts(EARLY, "first"), end_that_counts(EARLY, "least"), is_whole(EARLY[:1], "first"), is_whole(EARLY, "last"), read_moment(Reader(LAST, when="early"), EARLY), read_moment(Reader(LAST), EARLY)]
    [2, 1, False, True, 2, 3]
    """,
)

SECTION_3 = (
    """
    >>> from fragweave.places import owner_at, steps_at, value_read
    >>> TWICE = ((0, (5,), False), (0, (6,), False), (0, (6,), False), (0, (5,), True))
    >>> [steps_at(VOTE, TWICE, 0), owner_at(VOTE, TWICE, 0), value_read(VOTE, TWICE, 0), value_read(VOTE, TWICE, 1)]
    [((0, 0, 0), (1, 0, 1), (2, 2, 0), (3, 2, 1)), 2, 6, None]
    """,
    """
    >>> from fragweave.readers import Reader
    >>> from fragweave.reading import Reading
    >>> reading = Reading(Reader(VOTE, when="early"))
    >>> [reading.put((1, (6,), True)), reading.told, reading.put((0, (5, 9), False)), reading.told, reading.owners(), reading.states(), reading.back(), len(reading)]
    [1, None, 2, (5, 6), (1, 0), (0, 1), (0, (5, 9), False), 1]
    """,
)

POINT_8 = (
    """
    >>> from fragweave.classes import is_in
    >>> [[is_in(ROW, rows) for rows in ("all", "nested", "stairs", "begins", "ends")], is_in(((0, (5, 5, 5), False), (1, (6,), True)), "nested")]
    [[True, False, False, True, True], True]
    """,
)

POINT_9 = (
    """
    >>> from fragweave.types import first_type, letters_of
    >>> [first_type(2), first_type(1, rows="ends"), letters_of(first_type(2), rows="stairs"), len(letters_of(((0, 0), (0, 1), (0, 0), ())))]
    [((0, 0), (0, 0), (0, 0), ()), ((0,), (0,), (0,), (True,)), ((0, 0, 0), (0, 0, 1), (0, 0, 2), (1, 1, 0), (1, 1, 1), (1, 1, 2), (2, 2, 0), (2, 2, 1), (2, 2, 2)), 45]
    """,
    """
    >>> from fragweave.types import first_type, next_type
    >>> [next_type((FIRST, LAST), first_type(2), (0, 1, 1)), next_type((FIRST, LAST), first_type(2), (0, 1, 0)), next_type((FIRST, BEGINS), first_type(2), (2, 0, 2))]
    [((0, 0), (1, 0), (0, 0), ()), None, ((0, 0), (0, 0), (0, 0), ())]
    """,
    """
    >>> from fragweave.types import is_type
    >>> [is_type((FIRST, LAST), ((0, 0), (1, 0), (0, 0), ())), is_type((FIRST, LAST), ((0, 0), (1, 1), (0, 0), ())), is_type((FIRST,), ((1,), (0,), (0,), ()))]
    [True, False, False]
    """,
)

POINT_10 = (
    """
    >>> from fragweave.alike import alike_holds, are_alike, find_alike
    >>> paper = find_alike(FIRST, VOTE)
    >>> [find_alike(FIRST, FIRST), paper[0], len(paper[1]), are_alike(FIRST, BEGINS, rows="begins"), are_alike(FIRST, BEGINS), alike_holds(FIRST, BEGINS, ("unlike", ((1, (6,), False), (0, (5, 5), True)), 1)), alike_holds(FIRST, BEGINS, ("alike", ()))]
    [('alike', (((0, 0), (0, 0), (0, 0), ()),)), 'unlike', 3, True, False, True, False]
    """,
)

POINT_12 = (
    """
    >>> from fragweave.alike import unlike_row
    >>> from fragweave.readers import Reader
    >>> [unlike_row(Reader(FIRST), Reader(FIRST, when="early")), len(unlike_row(Reader(FIRST), Reader(FIRST, mark="least"))), len(unlike_row(Reader(VOTE), Reader(FIRST))), len(unlike_row(Reader(VOTE), Reader(VOTE, when="early")))]
    [None, 2, 3, 3]
    """,
)

POINT_13 = (
    """
    >>> from fragweave.orders import find_order, order_holds
    >>> paper = find_order(FIRST)
    >>> [paper[0], len(paper[1]), find_order(told_table("ranked")), order_holds(FIRST, ("bound", ((0, (5,), False), (0, (6,), False)), ((0, (6,), False), (0, (5,), False)), 0)), order_holds(FIRST, ("free", ()))]
    ['bound', 2, ('free', (((0, 0), (0, 0), (0, 0), ()),)), True, False]
    """,
)

POINT_14 = (
    """
    >>> from fragweave.twices import find_twice, twice_holds
    >>> paper = find_twice(LAST)
    >>> [find_twice(FIRST), paper[0], len(paper[1]), twice_holds(LAST, ("bound", ((0, (5,), False), (0, (6,), False)), 0, 2, 0)), twice_holds(LAST, ("bound", ((0, (5,), False), (0, (6,), False)), 0, 1, 0))]
    [('free', (((0, 0), (0, 0), (0, 0), ()),)), 'bound', 2, True, False]
    """,
)

POINT_16 = (
    """
    >>> from fragweave.tidy import find_tidy, tidy_holds
    >>> from fragweave.types import first_type
    >>> paper = ("serves", ((first_type(2), ("leave",) * 27),))
    >>> [find_tidy(FIRST, LAST)[0], tidy_holds(FIRST, (LAST,), paper), find_tidy(LAST, FIRST)[0], tidy_holds(LAST, (FIRST,), ("fails", ((first_type(2), 0, (0, 0, 0)),)))]
    ['serves', True, 'fails', True]
    """,
    """
    >>> from fragweave.tidiers import Tidier
    >>> tidier = Tidier(FIRST, LAST, VOTE)
    >>> [tidier.put((0, (5, 6), False)), tidier.put((1, (7, 8), True)), tidier.passed, len(tidier)]
    [(0, (5, 6), False), (1, (None, 8), True), ((0, (5, 6), False), (1, (None, 8), True)), 2]
    """,
    """
    >>> from fragweave.tidiers import Tidier
    >>> Tidier(LAST, FIRST)
    raises Fails()
    """,
)

POINT_17 = (
    """
    >>> from fragweave.rights import price_of, right_from, wrong_row
    >>> [wrong_row(FIRST, 0, 0), right_from(FIRST, 0), right_from(FIRST, 1), [right_from(MOST, k) for k in range(3)], price_of(MOST, 2), price_of(VOTE, 5)]
    [None, 0, None, [0, 2, None], 2, 2]
    """,
)

POINT_18 = (
    """
    >>> from fragweave.rights import find_right, right_holds
    >>> [find_right(FIRST, 0)[:2], find_right(LAST, 1)[0], right_holds(FIRST, 1, ("never", "less", (), ((1, 1, "true", 2),), ())), right_holds(FIRST, 0, ("from", 0, ((0, "true", 0, None),), None, None, None))]
    [('from', 0), 'never', True, True]
    """,
)

POINT_19 = (
    """
    >>> from fragweave.covers import find_cover
    >>> [find_cover(FIRST, LAST, 0)[0], find_cover(LAST, FIRST, 1)[0], len(find_cover(LAST, FIRST, 1)[1]), find_cover(FIRST, MOST, 1)[0], len(find_cover(FIRST, MOST, 1)[1])]
    ['covers', 'bare', 2, 'bare', 3]
    """,
)

POINT_20 = (
    """
    >>> from fragweave.settled import distances, settled, sure_at
    >>> [distances(VOTE), distances(MOST), settled(FIRST), settled(MOST), sure_at(FIRST, ROW, 2), sure_at(LAST, ROW, 2)]
    [(2, 1), (2, None, 1), (0,), (1,), 2, None]
    """,
)

POINT_21 = (
    """
    >>> from fragweave.changes import changes_hold, find_changes
    >>> [find_changes(FIRST)[:2], find_changes(LAST)[0], find_changes(MOST)[1][0], changes_hold(LAST, ("endless", (), ((1, 1, 0),))), changes_hold(LAST, ("endless", (), ((1, 1, 1),)))]
    [('most', (0,)), 'endless', 1, True, False]
    """,
)

POINT_22 = (
    """
    >>> from fragweave.merging import alike_states, merged, trimmed
    >>> THREE = ((("old", 2),) * 27, (("new", 0),) * 27, (("old", 0),) * 27)
    >>> [alike_states(THREE), merged(THREE) == FIRST, trimmed(THREE) == ((("old", 1),) * 27, (("old", 0),) * 27), len(merged(MOST))]
    [((0, 2),), True, True, 3]
    """,
)

POINT_23 = (
    """
    >>> from fragweave.mending import mend_numbers, mends
    >>> [mends(FIRST, FIRST), mends(FIRST, LAST), mend_numbers(FIRST, FIRST), mends(told_table("least"), told_table("ranked"))]
    [0, None, ((((0, 0), (0, 0), (0, 0), (0, 0)), 0),), None]
    """,
)

POINT_24 = (
    """
    >>> from fragweave.orderings import orders_read, weaves_read
    >>> from fragweave.readers import Reader
    >>> [orders_read(Reader(FIRST), ROW), weaves_read(Reader(LAST), ROW[:2], ((0, (9,), True),))]
    [(((1, 2, 8), 1, (0, 1, 2)), ((1, 2, 3), 2, (0, 2, 1)), ((1, 7, 8), 2, (1, 0, 2)), ((1, 7, 3), 1, (2, 1, 0))), (((9,), 2, (0, 0, 1)), ((1,), 1, (1, 0, 0)))]
    """,
)

POINT_25 = (
    """
    >>> from fragweave.making import mirrored, mirrored_row, then_table
    >>> [mirrored(BEGINS) == told_table("ends"), mirrored_row(((1, (5, None), True),), 4), then_table(FIRST, 1, LAST) == LAST, len(then_table(FIRST, 3, LAST))]
    [True, ((1, (None, 5), False),), True, 3]
    """,
)

POINT_26 = (
    """
    >>> from fragweave.alike import are_alike
    >>> from fragweave.making import blinded
    >>> [blinded(BEGINS, "begins") == FIRST, blinded(BEGINS, "ends") == BEGINS, are_alike(VOTE, blinded(VOTE, "begins", "ends"))]
    [True, True, True]
    """,
    """
    >>> from fragweave.rules import Rule
    >>> rule = Rule(BEGINS)
    >>> [rule(ROW, 1), rule[0, "<", "=", "="], ~rule == Rule(told_table("ends")), ROW in rule, ROW[1:] in rule, len(rule), rule == Rule(FIRST)]
    [2, ('new', 0), True, True, False, 1, False]
    """,
)

POINT_27 = (
    """
    >>> from fragweave.telling import apart_by, find_packet, groups_of, packet_holds
    >>> T = (FIRST, LAST, BEGINS, FIRST)
    >>> [groups_of(T), apart_by(T, ROW), len(find_packet(T)[1]), packet_holds(T, (ROW, ((0, 1, 1),)))]
    [((0, 3), (1,), (2,)), ((0, 2, 3), (1,)), 5, False]
    """,
)

POINT_28 = (
    """
    >>> from fragweave.houses import House
    >>> from fragweave.readers import Reader
    >>> house = House(Reader(FIRST, when="early"))
    >>> [house.come("a", (1, (6,), True)), house.come("b", (0, (7, 8), False)), house.come("a", (0, (5,), False)), house.told, house.open_names(), house.pieces_of("b"), House.is_name("a1")]
    [1, 2, 3, (('a', (5, 6)),), ('b',), ((0, (7, 8), False),), False]
    """,
)

POINT_29 = (
    """
    >>> from fragweave.houses import House
    >>> from fragweave.readers import Reader
    >>> house = House(Reader(LAST), room=2, patience=5)
    >>> [house.attempt([("come", "a", (0, (5,), True)), ("wait", 5), ("come", "b", (0, (6,), False)), ("wait", 1)]), house.lost, house.open_names(), house.close("b"), house.lost, house.undo(), house.lost]
    [4, ('a',), ('b',), 5, ('a', 'b'), 4, ('a',)]
    """,
    """
    >>> from fragweave.houses import House
    >>> from fragweave.readers import Reader
    >>> House(Reader(LAST)).attempt((("come", "a", (0, (5,), True)), ("close", "b")))
    raises Rejected(1)
    """,
)

POINT_31 = (
    """
    >>> from fragweave.houses import StrictHouse
    >>> from fragweave.readers import Reader
    >>> house = StrictHouse(Reader(LAST))
    >>> house.come("a", (0, (5, 6), False)) and house.come("a", (1, (7, 8), True))
    raises Stranger(1)
    """,
)

POINT_32 = (
    """
    >>> from fragweave.consoles import Console
    >>> from fragweave.houses import House
    >>> from fragweave.readers import Reader
    >>> console = Console(House(Reader(FIRST)))
    >>> [console("come a 0:5,6!"), console("read a"), console("close a"), console("told"), console("come a 0:1"), console("row b"), console("wait 05"), console("open ")]
    ['ok 1', '5,6', 'ok 2', 'a:5,6', 'error Over', 'error NoPacket', 'no line', 'no line']
    """,
)


class Examples(unittest.TestCase):
    def check_all(self, examples):
        for text in examples:
            with self.subTest(text=text):
                check_example(self, text)

    def test_point_4(self):
        self.check_all(POINT_4)

    def test_point_5(self):
        self.check_all(POINT_5)

    def test_point_6(self):
        self.check_all(POINT_6)

    def test_section_3(self):
        self.check_all(SECTION_3)

    def test_point_8(self):
        self.check_all(POINT_8)

    def test_point_9(self):
        self.check_all(POINT_9)

    def test_point_10(self):
        self.check_all(POINT_10)

    def test_point_12(self):
        self.check_all(POINT_12)

    def test_point_13(self):
        self.check_all(POINT_13)

    def test_point_14(self):
        self.check_all(POINT_14)

    def test_point_16(self):
        self.check_all(POINT_16)

    def test_point_17(self):
        self.check_all(POINT_17)

    def test_point_18(self):
        self.check_all(POINT_18)

    def test_point_19(self):
        self.check_all(POINT_19)

    def test_point_20(self):
        self.check_all(POINT_20)

    def test_point_21(self):
        self.check_all(POINT_21)

    def test_point_22(self):
        self.check_all(POINT_22)

    def test_point_23(self):
        self.check_all(POINT_23)

    def test_point_24(self):
        self.check_all(POINT_24)

    def test_point_25(self):
        self.check_all(POINT_25)

    def test_point_26(self):
        self.check_all(POINT_26)

    def test_point_27(self):
        self.check_all(POINT_27)

    def test_point_28(self):
        self.check_all(POINT_28)

    def test_point_29(self):
        self.check_all(POINT_29)

    def test_point_31(self):
        self.check_all(POINT_31)

    def test_point_32(self):
        self.check_all(POINT_32)

    def test_readme(self):
        failed, tried = doctest.testfile("../README.md")
        self.assertEqual(failed, 0)
        self.assertGreater(tried, 5)


if __name__ == "__main__":
    unittest.main()
