"""Promises 28 to 31: houses, which read packets that come mixed."""

import random
import unittest
from copy import deepcopy

from fragweave.bounds import BATCH, PIECES
from fragweave.errors import (BadBatch, BadName, BadPatience, BadPiece, BadReader, BadRoom, BadTicks, Busy, NoPacket, NoRoom,
                              NothingToUndo, Over, Rejected, Stranger, TooManyEdits)
from fragweave.houses import House, StrictHouse
from fragweave.pieces import is_piece
from fragweave.readers import Reader
from fragweave.rules import Rule
from fragweave.tables import told_table
from tests.helpers import MARKS, NAMES, ROW, any_values, plain_packet, plain_steps, plain_value, random_piece, random_table

FIRST = told_table("first")
LAST = told_table("last")
VOTE = told_table("vote")
PIECE = (0, (5,), False)
WHOLE = (0, (5,), True)
BAD_NAMES = ("", "A", "a1", "abcdefghi", " a", "a\n", None, 1, True, ("a",), ["a"], {"a": 1}, "a b", "a" * 20000)


def is_plain_name(value):
    """Whether any value is a name, letter by letter."""
    return type(value) is str and 1 <= len(value) <= 8 and all(sign in "abcdefghijklmnopqrstuvwxyz" for sign in value)


class PlainHouse:
    """A house after the words of the document, which does all its edits again for each question."""

    def __init__(self, house):
        self.reader, self.room, self.patience = house.reader, house.room, house.patience
        self.strict = isinstance(house, StrictHouse)
        self.edits = []

    def read(self, row):
        return plain_packet(self.reader.table, row, self.reader.mark, self.reader.when)

    def state(self):
        """(time, told, lost, rows, newest) behind all edits."""
        time, told, lost, rows, newest = 0, [], [], {}, {}
        for word, *arguments in self.edits:
            if word == "wait":
                time += arguments[0]
                for name in sorted(rows):
                    if self.patience is not None and time - newest[name] > self.patience:
                        del rows[name]
                        lost.append(name)
                continue
            name = arguments[0]
            if word == "come":
                rows[name] = (*rows.get(name, ()), arguments[1])
                newest[name] = time
                if self.reader.when == "early" and self.read(rows[name]) is not None:
                    told.append((name, self.read(rows.pop(name))))
            else:
                row = rows.pop(name)
                packet = self.read(row) if self.reader.when == "late" else None
                if packet is None:
                    lost.append(name)
                else:
                    told.append((name, packet))
        return time, told, lost, rows, newest

    def error(self, word, arguments):
        """The error that an edit raises, with its field, None if there is none."""
        _, told, lost, rows, _ = self.state()
        if len(self.edits) == 60:
            return TooManyEdits, ()
        first = arguments[0]
        if word == "wait":
            return None if type(first) is int and 1 <= first <= 1000 else (BadTicks, (first,))
        if not is_plain_name(first):
            return BadName, (first,)
        if word == "close":
            return None if first in rows else (NoPacket, (first,))
        if not is_piece(arguments[1]):
            return BadPiece, (arguments[1],)
        if first in lost or first in dict(told):
            return Over, (first,)
        if self.room is not None and sum(map(len, rows.values())) >= self.room:
            return NoRoom, (self.room,)
        return self.stranger(rows.get(first, ()), arguments[1]) if self.strict else None

    def stranger(self, row, piece):
        """The error Stranger with its place, None if there is none."""
        for place in range(piece[0], piece[0] + len(piece[1])):
            steps = plain_steps(self.reader.table, row, place)
            value = plain_value(piece, place)
            if value is not None and steps and plain_value(row[steps[-1][1]], place) != value:
                return Stranger, (place,)
        return None


def shown(house):
    """All that a house shows, without its edits."""
    names = house.open_names()
    return (house.time, house.told, house.lost, names, [house.pieces_of(name) for name in names], [house[name] for name in names],
            [name in house for name in (*names, "zzzz")])


def whole_state(house):
    """All that a house shows, with its edits."""
    return (*shown(house), house.edits(), house.version, len(house), str(house), house.reader, house.room, house.patience)


def drawn_edit(source, *, wrong=0.2):
    """Any edit, sometimes a wrong one."""
    word = source.choice(("come", "come", "come", "come", "wait", "close"))
    name = source.choice("abcdef") if source.random() > wrong / 2 else source.choice(BAD_NAMES)
    if word == "come":
        return (word, name, random_piece(source, most_end=3, values=2) if source.random() > wrong / 2 else source.choice(any_values()))
    if word == "close":
        return (word, name)
    return (word, source.randint(1, 4) if source.random() > wrong / 2 else source.choice((0, 1001, True, None, "1", -1, 1000)))


def drawn_house(source):
    """Any house."""
    table = source.choice([told_table(source.choice(NAMES)), random_table(source)])
    reader = Reader(table, mark=source.choice(MARKS), when=source.choice(("late", "early")))
    made = source.choice((House, StrictHouse))
    return made(reader, room=source.choice((None, 1, 2, 5, 30)), patience=source.choice((None, 1, 3, 10)))


def do(house, edit):
    """Do an edit by its word."""
    word, *arguments = edit
    return {"come": house.come, "wait": house.wait, "close": house.close}[word](*arguments)


class Case(unittest.TestCase):
    def check_raises(self, wanted, fields, step, *arguments, **more):
        with self.assertRaises(wanted) as caught:
            step(*arguments, **more)
        found = list(vars(caught.exception).values())
        self.assertEqual(len(found), len(fields))
        for one, other in zip(found, fields):
            self.assertTrue(one is other or one == other, (one, other))
        self.assertIs(caught.exception.__class__, wanted)

    def check_state(self, house, plain):
        time, told, lost, rows, _ = plain.state()
        self.assertEqual((house.time, house.told, house.lost), (time, tuple(told), tuple(lost)))
        self.assertEqual(house.open_names(), tuple(sorted(rows)))
        self.assertEqual({name: house.pieces_of(name) for name in rows}, rows)
        self.assertEqual({name: house[name] for name in rows}, {name: plain.read(rows[name]) for name in rows})
        self.assertEqual((house.edits(), house.version, len(house)), (tuple(plain.edits), len(plain.edits), len(plain.edits)))
        self.assertEqual(str(house), f"{len(rows)} open, {len(told)} read, {len(lost)} lost, {len(plain.edits)} edits")
        for name in "abcdefg":
            self.assertIs(name in house, name in rows)


class Made(Case):
    def test_properties(self):
        reader = Reader(FIRST)
        for made in (House, StrictHouse):
            for room in (None, 1, PIECES):
                for patience in (None, 1, 1000):
                    house = made(reader, room=room, patience=patience)
                    self.assertIs(house.reader, reader)
                    self.assertEqual((house.room, house.patience, house.time, house.version), (room, patience, 0, 0))
                    self.assertEqual((house.told, house.lost, house.open_names(), house.edits(), len(house)), ((), (), (), (), 0))
            for name in ("reader", "room", "patience", "time", "version", "told", "lost"):
                with self.assertRaises(AttributeError):
                    setattr(house, name, None)
        self.assertTrue(issubclass(StrictHouse, House))
        self.assertEqual((House.LIMIT, StrictHouse.LIMIT), (60, 60))

    def test_wrong_arguments(self):
        for made in (House, StrictHouse):
            for value in any_values():
                if not isinstance(value, Reader):
                    self.check_raises(BadReader, (value,), made, value, room="x", patience="y")
            for value in (*any_values(), 0, -1, PIECES + 1, True):
                if value is not None and not (value.__class__ is int and 1 <= value <= PIECES):
                    self.check_raises(BadRoom, (value,), made, Reader(FIRST), room=value, patience="y")
            for value in (*any_values(), 0, -1, 1001, True):
                if value is not None and not (value.__class__ is int and 1 <= value <= 1000):
                    self.check_raises(BadPatience, (value,), made, Reader(FIRST), room=1, patience=value)
            self.check_raises(BadReader, (None,), made, None)
            with self.assertRaises(TypeError):
                made(Reader(FIRST), 1)

    def test_names(self):
        for value in ("a", "z", "abcdefgh", "zzzzzzzz"):
            self.assertIs(House.is_name(value), True)
        for value in (*BAD_NAMES, *[value for value in any_values() if not is_plain_name(value)], "\u00e9", "a\u0301", "\u0131"):
            self.assertIs(House.is_name(value), False)
            self.assertIs(StrictHouse(Reader(FIRST)).is_name(value), False)


class Edits(Case):
    def test_edits_of_all_kinds(self):
        source = random.Random(28)
        raised = {}
        for _ in range(60):
            house = drawn_house(source)
            plain = PlainHouse(house)
            for _ in range(source.choice((12, 30, 400))):
                edit = drawn_edit(source)
                wanted = plain.error(edit[0], edit[1:])
                if wanted is not None:
                    before = whole_state(house)
                    self.check_raises(*wanted, do, house, edit)
                    self.assertEqual(whole_state(house), before)
                    raised[wanted[0]] = raised.get(wanted[0], 0) + 1
                    continue
                plain.edits.append(edit)
                self.assertEqual(do(house, edit), len(plain.edits))
                self.check_state(house, plain)
        self.assertEqual(set(raised), {BadName, BadPiece, Over, NoRoom, BadTicks, NoPacket, TooManyEdits, Stranger})
        self.assertGreater(min(raised.values()), 5)

    def test_all_edits_undone_one_by_one(self):
        source = random.Random(29)
        for _ in range(30):
            house = drawn_house(source)
            states = [whole_state(house)]
            while len(states) < 61:
                plain = PlainHouse(house)
                plain.edits = list(house.edits())
                edit = drawn_edit(source, wrong=0)
                if plain.error(edit[0], edit[1:]) is None:
                    do(house, edit)
                    states.append(whole_state(house))
            self.check_raises(TooManyEdits, (), house.wait, "x")
            self.check_raises(TooManyEdits, (), house.come, 1, 2)
            self.check_raises(TooManyEdits, (), house.close, 1)
            while len(states) > 1:
                self.assertEqual(whole_state(house), states.pop())
                self.assertEqual(house.undo(), len(states) - 1)
            self.assertEqual(whole_state(house), states[0])
            self.check_raises(NothingToUndo, (), house.undo)

    def test_errors_in_their_order(self):
        house = House(Reader(LAST, when="early"), room=1)
        self.check_raises(BadName, ("A",), house.come, "A", None)
        self.check_raises(BadPiece, (None,), house.come, "a", None)
        house.come("a", WHOLE)
        self.check_raises(BadPiece, (1,), house.come, "a", 1)
        house.come("b", PIECE)
        self.check_raises(Over, ("a",), house.come, "a", PIECE)
        self.check_raises(NoRoom, (1,), house.come, "b", PIECE)
        self.check_raises(NoRoom, (1,), house.come, "c", WHOLE)
        self.check_raises(NoPacket, ("a",), house.close, "a")
        self.check_raises(BadName, ("a1",), house.close, "a1")
        for value in BAD_NAMES:
            self.check_raises(BadName, (value,), house.come, value, PIECE)
            self.check_raises(BadName, (value,), house.close, value)
        for value in any_values():
            if value.__class__ is not int or not 1 <= value <= 1000:
                self.check_raises(BadTicks, (value,), house.wait, value)
            if not is_piece(value):
                self.check_raises(BadPiece, (value,), house.come, "c", value)

    def test_room(self):
        house = House(Reader(LAST, when="early"), room=3)
        for name in "abc":
            house.come(name, PIECE)
        self.check_raises(NoRoom, (3,), house.come, "a", PIECE)
        house.close("b")
        self.assertEqual(house.come("a", (0, (6,), False)), 5)
        self.check_raises(NoRoom, (3,), house.come, "d", PIECE)
        house.undo()
        self.assertEqual(house.come("c", WHOLE), 5)
        self.assertEqual((house.told, house.lost, house.open_names()), ((("c", (5,)),), ("b",), ("a",)))
        self.assertEqual([house.come("e", PIECE), house.come("f", PIECE)], [6, 7])
        self.check_raises(NoRoom, (3,), house.come, "g", PIECE)

    def test_patience(self):
        house = House(Reader(LAST), patience=5)
        house.come("b", PIECE)
        house.wait(2)
        house.come("a", PIECE)
        house.come("c", PIECE)
        self.assertEqual((house.wait(3), house.lost, house.open_names()), (5, (), ("a", "b", "c")))
        house.come("c", PIECE)
        self.assertEqual((house.wait(3), house.lost, house.open_names(), house.time), (7, ("a", "b"), ("c",), 8))
        self.check_raises(Over, ("a",), house.come, "a", PIECE)
        self.assertEqual((house.wait(1000), house.lost, house.time), (8, ("a", "b", "c"), 1008))
        self.assertEqual((house.undo(), house.undo(), house.lost, house.open_names()), (7, 6, (), ("a", "b", "c")))
        patient = House(Reader(LAST))
        patient.come("a", PIECE)
        for _ in range(50):
            patient.wait(1000)
        self.assertEqual((patient.time, patient.lost, patient.open_names()), (50000, (), ("a",)))

    def test_lost_packets_are_in_the_order_of_their_names(self):
        house = House(Reader(LAST), patience=1)
        for name in ("m", "b", "zz", "z", "ab", "a"):
            house.come(name, PIECE)
        house.close("m")
        house.wait(2)
        self.assertEqual(house.lost, ("m", "a", "ab", "b", "z", "zz"))

    def test_late_and_early(self):
        for when, told, lost in (("late", (("b", (5,)),), ("a",)), ("early", (("b", (5,)),), ("a",))):
            house = House(Reader(FIRST, when=when))
            house.come("a", PIECE)
            house.come("b", WHOLE)
            self.assertEqual(house.open_names(), ("a", "b") if when == "late" else ("a",))
            house.close("a")
            if when == "late":
                self.assertEqual(house["b"], (5,))
                house.close("b")
            self.assertEqual((house.told, house.lost, house.open_names()), (told, lost, ()))
            self.check_raises(Over, ("b",), house.come, "b", WHOLE)
            self.check_raises(Over, ("a",), house.come, "a", WHOLE)

    def test_what_is_asked_of_no_packet(self):
        house = House(Reader(FIRST, when="early"))
        house.come("a", WHOLE)
        house.come("b", PIECE)
        for value in (*BAD_NAMES, "a", "c", *any_values(), 0, slice(0, 1)):
            self.check_raises(NoPacket, (value,), house.pieces_of, value)
            self.check_raises(NoPacket, (value,), house.__getitem__, value)
            self.assertIs(value in house, False)
        self.assertEqual((house["b"], house.pieces_of("b"), "b" in house), (None, (PIECE,), True))

    def test_a_loop_raises_a_type_error(self):
        house = House(Reader(FIRST))
        house.come("a", PIECE)
        for one in (house, House(Reader(FIRST)), StrictHouse(Reader(FIRST))):
            for loop in (iter, list, tuple, sorted, lambda one: [*one], max):
                with self.assertRaises(TypeError):
                    loop(one)

    def test_values_do_not_change_by_later_edits(self):
        house = House(Reader(FIRST, when="early"), patience=2)
        house.come("a", PIECE)
        kept = [house.told, house.lost, house.open_names(), house.pieces_of("a"), house.edits()]
        twin = deepcopy(kept)
        house.attempt([("come", "b", WHOLE), ("come", "a", PIECE), ("wait", 3)])
        house.undo()
        self.assertEqual(kept, twin)


class Attempts(Case):
    def test_batches_as_lists_and_tuples(self):
        source = random.Random(30)
        for _ in range(60):
            house = drawn_house(source)
            plain = PlainHouse(house)
            for _ in range(8):
                batch = [drawn_edit(source, wrong=0.05) for _ in range(source.randint(0, 8))]
                before = whole_state(house)
                stands = list(plain.edits)
                index = None
                for at, edit in enumerate(batch):
                    if plain.error(edit[0], edit[1:]) is not None:
                        index = at
                        break
                    plain.edits.append(edit)
                batch = source.choice((list, tuple))(batch)
                if index is None:
                    self.assertEqual(house.attempt(batch), len(plain.edits))
                else:
                    self.check_raises(Rejected, (index,), house.attempt, batch)
                    self.assertEqual(whole_state(house), before)
                    plain.edits = stands
                self.check_state(house, plain)

    def test_each_edit_stands_by_itself(self):
        house = House(Reader(LAST))
        batch = [("come", "a", WHOLE), ("wait", 7), ("come", "b", PIECE), ("close", "a")]
        house.attempt(batch)
        self.assertEqual(house.edits(), tuple(batch))
        versions = []
        while house.version:
            versions.append((house.undo(), house.edits()))
        self.assertEqual(versions, [(count, tuple(batch[:count])) for count in (3, 2, 1, 0)])

    def test_values_that_are_no_batches(self):
        edit = ("wait", 1)
        wrong = [value for value in any_values() if value not in ((), [])]
        wrong += [[edit] * (BATCH + 1), (edit,) * (BATCH + 1), [list(edit)], [("wait",)], [("wait", 1, 2)], [("come", "a")],
                  [("come", "a", PIECE, 1)], [("close",)], [("close", "a", 1)], [("undo",)], [()], [None], ["wait"], [("Wait", 1)],
                  [edit, ("", 1)], [(["wait"], 1)], [({"a": 1}, 1)], [(None, 1)], {"wait": 1}, "wait", edit, (("attempt", []),)]
        for value in wrong:
            house = House(Reader(LAST))
            house.wait(1)
            self.check_raises(BadBatch, (), house.attempt, value)
            self.check_raises(BadBatch, (), house.attempt, value, on_step=self.fail)
            self.assertEqual(house.version, 1)

    def test_empty_and_full_batches(self):
        house = House(Reader(LAST))
        self.assertEqual((house.attempt([]), house.attempt(())), (0, 0))
        self.assertEqual(house.attempt([], on_step=self.fail), 0)
        self.assertEqual([house.attempt([("wait", 1)] * BATCH) for _ in range(3)], [20, 40, 60])
        self.assertEqual(house.attempt([]), 60)
        self.check_raises(Rejected, (0,), house.attempt, [("wait", 1)])
        house.undo()
        self.check_raises(Rejected, (1,), house.attempt, [("wait", 1)] * 3)
        self.assertEqual((house.version, house.attempt([("wait", 1)]), house.time), (59, 60, 60))

    def test_the_edit_at_any_place_raises_an_error(self):
        wrong = [("come", "A", PIECE), ("come", "a", None), ("come", "over", PIECE), ("come", "d", (0, (7,), False)), ("wait", 0),
                 ("wait", True), ("close", 1), ("close", "over"), ("close", "no"), ("come", "b", (0, (6,), True))]
        for at in range(5):
            for edit in wrong:
                house = StrictHouse(Reader(LAST), room=7)
                for name in ("over", "b", "d"):
                    house.come(name, PIECE)
                house.close("over")
                before = whole_state(house)
                batch = [("come", "c", PIECE), ("wait", 1), ("come", "b", PIECE), ("wait", 2)]
                batch.insert(at, edit)
                self.check_raises(Rejected, (at,), house.attempt, batch)
                self.assertEqual(whole_state(house), before)
                self.assertEqual(house.attempt([("wait", 1)]), 5)

    def test_arguments_are_kept_as_they_are(self):
        piece = (0, (5, None), True)
        house = House(Reader(LAST))
        house.attempt([("come", "a", piece)])
        house.come("a", piece)
        self.assertTrue(all(edit[2] is piece for edit in house.edits()))


class Steps(Case):
    BATCH = [("come", "a", PIECE), ("wait", 1), ("come", "b", WHOLE), ("close", "a")]

    def test_on_step_looks(self):
        for made in (House, StrictHouse):
            house = made(Reader(FIRST, when="early"))
            house.wait(9)
            looks = []
            self.assertEqual(house.attempt(self.BATCH, on_step=lambda one: looks.append((one, *whole_state(one)))), 5)
            other = made(Reader(FIRST, when="early"))
            other.wait(9)
            for edit, (one, *state) in zip(self.BATCH, looks, strict=True):
                do(other, edit)
                self.assertIs(one, house)
                self.assertEqual(state[:-3], list(whole_state(other))[:-3])

    def test_what_on_step_returns_does_not_matter(self):
        for value in (None, True, False, Busy(), "x"):
            house = House(Reader(FIRST))
            self.assertEqual(house.attempt(self.BATCH, on_step=lambda one: value), 4)

    def test_edits_raise_busy_within_on_step(self):
        met = []

        def on_step(one):
            before = whole_state(one)
            for step, arguments in (
                    (one.come, ("a", PIECE)), (one.come, (1, 2)), (one.wait, (1,)), (one.wait, (0,)), (one.close, ("a",)),
                    (one.close, (1,)), (one.undo, ()), (one.attempt, ([],)), (one.attempt, (self.BATCH,)), (one.attempt, (None,))):
                self.check_raises(Busy, (), step, *arguments)
            self.assertEqual(whole_state(one), before)
            met.append(one.version)

        house = House(Reader(FIRST))
        self.assertEqual(house.attempt(self.BATCH, on_step=on_step), 4)
        self.assertEqual((met, house.wait(1), house.undo()), ([1, 2, 3, 4], 5, 4))

    def test_busy_comes_ahead_of_too_many_edits(self):
        house = House(Reader(FIRST))
        for _ in range(59):
            house.wait(1)
        house.attempt([("wait", 1)], on_step=lambda one: self.check_raises(Busy, (), one.wait, 1))
        self.check_raises(TooManyEdits, (), house.wait, 1)

    def test_on_step_raises(self):
        class Own(BaseException):
            pass

        for error in (ValueError("x"), KeyError("y"), Own(), Busy(), Rejected(7), NoPacket("q"), BadPiece(1), StopIteration()):
            for at in range(1, 5):
                house = House(Reader(FIRST))
                house.come("q", PIECE)
                before = whole_state(house)

                def on_step(one):
                    if one.version == at + 1:
                        raise error

                with self.assertRaises(error.__class__) as caught:
                    house.attempt(self.BATCH, on_step=on_step)
                self.assertIs(caught.exception, error)
                self.assertEqual(whole_state(house), before)
                self.assertEqual((house.attempt(self.BATCH), house.undo()), (5, 4))

    def test_errors_that_on_step_does_not_catch(self):
        for step in (lambda one: one.wait(1), lambda one: one.undo(), lambda one: one.attempt([])):
            house = House(Reader(FIRST))
            self.check_raises(Busy, (), house.attempt, self.BATCH, on_step=step)
            self.assertEqual((house.version, house.wait(1)), (0, 1))

    def test_rejected_behind_steps(self):
        house = House(Reader(FIRST))
        met = []
        self.check_raises(Rejected, (2,), house.attempt, [*self.BATCH[:2], ("wait", 0)], on_step=lambda one: met.append(one.version))
        self.assertEqual((met, house.version, house.open_names()), ([1, 2], 0, ()))

    def test_the_batch_is_read_once(self):
        batch = list(self.BATCH)
        house = House(Reader(FIRST))
        self.assertEqual(house.attempt(batch, on_step=lambda one: batch.clear()), 4)
        self.assertEqual((batch, house.edits()), ([], tuple(self.BATCH)))
        batch = list(self.BATCH)
        self.assertEqual(House(Reader(FIRST)).attempt(batch, on_step=lambda one: batch.append(("wait", 1))), 4)

    def test_copies_made_within_on_step(self):
        for made in (House, StrictHouse):
            copies = []

            def on_step(one):
                twin = one.copy()
                self.assertIs(twin.__class__, made)
                self.assertEqual((twin, twin.edits()), (one, one.edits()))
                twin.wait(5)
                twin.undo()
                twin.attempt([("wait", 1), ("come", "zz", PIECE)])
                copies.append(twin)

            house = made(Reader(FIRST))
            house.attempt(self.BATCH, on_step=on_step)
            self.assertEqual([twin.version for twin in copies], [3, 4, 5, 6])
            self.assertEqual([twin.edits()[:-2] for twin in copies], [tuple(self.BATCH[:count]) for count in range(1, 5)])
            self.assertEqual((house.version, "zz" in house), (4, False))

    def test_a_copy_outlives_a_rejected_batch(self):
        copies = []
        house = House(Reader(FIRST))
        self.check_raises(Rejected, (1,), house.attempt, [("come", "a", PIECE), ("wait", 0)], on_step=lambda one: copies.append(one.copy()))
        self.assertEqual((copies[0].version, copies[0].open_names(), house.version), (1, ("a",), 0))

    def test_houses_within_a_house(self):
        other = House(Reader(LAST))
        house = House(Reader(FIRST))
        house.attempt(self.BATCH, on_step=lambda one: other.attempt([("wait", one.version)], on_step=lambda two: two.copy().wait(1)))
        self.assertEqual((other.time, house.version), (10, 4))


class Copies(Case):
    def test_copies_are_independent(self):
        source = random.Random(31)
        for _ in range(40):
            house = drawn_house(source)
            for _ in range(15):
                edit = drawn_edit(source, wrong=0)
                plain = PlainHouse(house)
                plain.edits = list(house.edits())
                if plain.error(edit[0], edit[1:]) is None:
                    do(house, edit)
            twin = house.copy()
            self.assertIs(twin.__class__, house.__class__)
            self.assertEqual(whole_state(twin), whole_state(house))
            before = whole_state(house)
            while twin.version:
                twin.undo()
            twin.wait(3)
            self.assertEqual(whole_state(house), before)
            again = house.copy()
            house.wait(1)
            self.assertEqual(whole_state(again), before)

    def test_a_strict_copy_is_strict(self):
        house = StrictHouse(Reader(LAST), room=9, patience=9)
        house.come("a", PIECE)
        self.check_raises(Stranger, (0,), house.copy().come, "a", (0, (6,), False))
        plain = House(Reader(LAST), room=9, patience=9)
        plain.come("a", PIECE)
        self.assertEqual(plain.copy().come("a", (0, (6,), False)), 2)


class Equality(Case):
    def test_led_to_the_same_state_in_other_ways(self):
        one, other = House(Reader(LAST), patience=50), StrictHouse(Reader(LAST), patience=50)
        one.attempt([("come", "a", PIECE), ("wait", 3), ("come", "b", WHOLE), ("wait", 2), ("close", "b")])
        other.attempt([("wait", 5)])
        self.assertFalse(one == other)
        other.undo()
        other.attempt([("come", "a", PIECE), ("wait", 1), ("wait", 1), ("wait", 1), ("come", "b", WHOLE), ("close", "b"), ("wait", 2)])
        self.assertTrue(one == other and other == one and not one != other)
        self.assertNotEqual(one.edits(), other.edits())
        one.wait(1)
        self.assertFalse(one == other)

    def test_each_part_counts(self):
        def made(reader=Reader(LAST), room=None, patience=None, edits=()):
            house = House(reader, room=room, patience=patience)
            house.attempt(list(edits))
            return house

        base = [("come", "a", PIECE), ("wait", 2), ("come", "b", PIECE), ("come", "c", WHOLE), ("close", "c"), ("close", "b")]
        others = [
            made(), made(room=9, edits=base), made(patience=900, edits=base), made(Reader(LAST, mark="last"), edits=base),
            made(Reader(LAST, when="early"), edits=base[:-2]), made(Reader(FIRST), edits=base), made(edits=base[:-1]),
            made(edits=base[:-2]), made(edits=[base[1], base[0], *base[2:]]), made(edits=[*base, ("wait", 1)]),
            made(edits=[base[0], base[0], *base[1:]]), made(edits=[*base[:3], ("come", "d", WHOLE), ("close", "d"), base[-1]]),
            made(edits=[("come", "a", (0, (6,), False)), *base[1:]]), made(edits=[*base[:2], base[3], base[4]])]
        for number, one in enumerate([made(edits=base), *others]):
            for place, other in enumerate([made(edits=base), *others]):
                self.assertIs(one == other, number == place, (number, place))
                self.assertIs(one == other.copy(), number == place)

    def test_rows_that_were_led_to_in_another_order(self):
        one, other = House(Reader(LAST)), House(Reader(LAST))
        one.attempt([("come", "a", PIECE), ("come", "b", PIECE)])
        other.attempt([("come", "b", PIECE), ("come", "a", PIECE)])
        self.assertTrue(one == other)
        one.attempt([("close", "a"), ("close", "b")])
        other.attempt([("close", "b"), ("close", "a")])
        self.assertFalse(one == other)

    def test_readers_with_another_str(self):
        table = (FIRST[0], FIRST[0])
        self.assertEqual(Reader(FIRST), Reader(table))
        self.assertFalse(House(Reader(FIRST)) == House(Reader(table)))
        self.assertTrue(House(Reader(FIRST)) == House(Reader(FIRST)))

    def test_other_values(self):
        house = House(Reader(FIRST))
        for value in (*any_values(), Rule(FIRST), str(house), len(house), ()):
            self.assertIs(house == value, False)
            self.assertIs(value == house, False)
            self.assertIs(house != value, True)


class Strict(Case):
    def test_the_least_place(self):
        house = StrictHouse(Reader(LAST))
        house.come("a", (1, (5, None, 7, 8), False))
        for piece, place in (
                ((0, (1, 6, 6, 6), False), 1), ((2, (9, 9), True), 3), ((4, (8,), False), None), ((3, (None, 9), False), 4),
                ((1, (None, 4, 7, None), False), None), ((2, (3,), False), 2), ((0, (4,), False), None)):
            if place is None:
                house.come("a", piece)
            else:
                before = whole_state(house)
                self.check_raises(Stranger, (place,), house.come, "a", piece)
                self.assertEqual(whole_state(house), before)
        house.come("b", (1, (9, 9, 9), False))
        self.assertEqual(house.version, 5)

    def test_what_the_table_reads_counts(self):
        first, vote = [StrictHouse(Reader(told_table(name))) for name in ("first", "vote")]
        for house in (first, vote):
            house.come("a", PIECE)
            self.check_raises(Stranger, (0,), house.come, "a", (0, (6,), False))
            self.assertEqual(house.come("a", PIECE), 2)

    def test_places_behind_the_end_that_counts(self):
        house = StrictHouse(Reader(FIRST, mark="first"))
        house.attempt([("come", "a", (1, (5, 6), False)), ("come", "a", (1, (5,), True))])
        self.check_raises(Stranger, (2,), house.come, "a", (2, (7,), False))
        self.check_raises(Rejected, (0,), house.attempt, [("come", "a", (2, (7,), False))])

    def test_the_other_errors_come_first(self):
        house = StrictHouse(Reader(LAST, when="early"), room=1)
        house.come("a", PIECE)
        self.check_raises(NoRoom, (1,), house.come, "a", (0, (6,), False))
        self.check_raises(BadPiece, (None,), house.come, "a", None)
        self.check_raises(BadName, (None,), house.come, None, (0, (6,), False))
        house.close("a")
        self.check_raises(Over, ("a",), house.come, "a", (0, (6,), False))

    def test_a_house_takes_strangers(self):
        house = House(Reader(LAST))
        house.attempt([("come", "a", ROW[0]), ("come", "a", ROW[1]), ("come", "a", ROW[2])])
        self.assertEqual(house["a"], (1, 7, 3))
        strict = StrictHouse(Reader(LAST))
        self.check_raises(Rejected, (1,), strict.attempt, house.edits())


class Largest(Case):
    def test_widest_pieces(self):
        piece = (0, (7,) * 5000, True)
        house = StrictHouse(Reader(VOTE), room=PIECES)
        for _ in range(59):
            house.come("a", piece)
        self.assertEqual((len(house["a"]), house.close("a"), house.told[0][1] == piece[1]), (5000, 60, True))

    def test_many_packets(self):
        house = House(Reader(LAST, when="early"), patience=1)
        names = sorted({f"{one}{other}" for one in "hgfedcba" for other in "zyxwvut"})
        for name in names[::-1]:
            house.come(name, PIECE)
        house.wait(1)
        self.assertEqual(house.open_names(), tuple(names))
        house.wait(1)
        self.assertEqual((house.lost, house.version), (tuple(names), 58))


if __name__ == "__main__":
    unittest.main()
