"""Promise 32: consoles."""

import random
import unittest

from fragweave import errors
from fragweave.consoles import Console
from fragweave.houses import House, StrictHouse
from fragweave.readers import Reader
from fragweave.rowtexts import piece_text
from fragweave.tables import told_table
from tests.helpers import MARKS, NAMES, any_values, random_piece

FIRST = told_table("first")
LAST = told_table("last")
PIECE_TEXTS = ("0:5,6!", "0:1", "2:5,.,7!", "4999:1000000", "0:.", "1:2,3")
WRONG_PIECES = ("0:", ":1", "0:1,", "0:1!!", "00:1", "0:01", "-1:2", "0:-1", "0:1000001", "5000:1", "0:1.", "x", "!", "0:1\n", "-")


def consoles(**more):
    """A console and its house."""
    house = House(Reader(FIRST), **more)
    return Console(house), house


class Case(unittest.TestCase):
    def check_lines(self, console, lines):
        for number, (line, answer) in enumerate(lines):
            way = console if number % 2 else console.execute
            self.assertEqual(way(line), answer, line)

    def check_no_lines(self, console, house, lines):
        before = (house.edits(), house.time, house.told, house.lost)
        for line in lines:
            self.assertEqual((console.execute(line), console(line)), ("no line", "no line"), line)
        self.assertEqual((house.edits(), house.time, house.told, house.lost), before)


class Lines(Case):
    def test_a_session(self):
        console, house = consoles(room=3, patience=4)
        self.check_lines(console, (
            ("open", "-"), ("told", "-"), ("lost", "-"), ("undo", "error NothingToUndo"), ("row a", "error NoPacket"),
            ("come b 0:1,2", "ok 1"), ("come a 0:5,.,7!", "ok 2"), ("open", "a b"), ("row a", "0:5,.,7!"), ("read a", "none"),
            ("come a 1:6", "ok 3"), ("read a", "5,6,7"), ("row a", "0:5,.,7! 1:6"), ("come c 0:1", "error NoRoom"),
            ("close a", "ok 4"), ("told", "a:5,6,7"), ("come a 0:1", "error Over"), ("wait 4", "ok 5"), ("lost", "-"),
            ("wait 1", "ok 6"), ("lost", "b"), ("open", "-"), ("come ab 0:9!", "ok 7"), ("close ab", "ok 8"),
            ("told", "a:5,6,7 ab:9"), ("come c 0:1", "ok 9"), ("close c", "ok 10"), ("lost", "b c"), ("undo", "ok 9"),
            ("lost", "b"), ("open", "c"), ("close d", "error NoPacket"), ("read d", "error NoPacket"), ("wait 0", "error BadTicks"),
            ("wait 1001", "error BadTicks"), ("wait 999999999", "error BadTicks"), ("come A 0:1", "error BadName"),
            ("come abcdefghi 0:1", "error BadName"), ("close A", "error BadName"), ("row A", "error NoPacket"),
            ("read \n", "error NoPacket"), ("come a\n 0:1", "error BadName")))
        self.assertEqual((house.version, house.open_names(), house.time), (9, ("c",), 5))

    def test_this_very_house_is_worked_on(self):
        console, house = consoles()
        house.come("a", (0, (5, 6), True))
        self.check_lines(console, (("read a", "5,6"), ("wait 3", "ok 2"), ("close a", "ok 3")))
        self.assertEqual((house.time, house.told), (3, (("a", (5, 6)),)))
        other = Console(house)
        self.assertEqual((other("undo"), console("undo"), house.version), ("ok 2", "ok 1", 1))

    def test_errors_of_other_kinds(self):
        house = StrictHouse(Reader(LAST))
        console = Console(house)
        self.check_lines(console, (("come a 0:5", "ok 1"), ("come a 0:6", "error Stranger")))
        answers = []
        house.attempt([("wait", 1)], on_step=lambda one: answers.extend([console(line) for line in (
            "wait 1", "come a 0:5", "close a", "undo", "open", "row a", "read a", "wait 05")]))
        self.assertEqual(answers, ["error Busy"] * 4 + ["a", "0:5", "none", "no line"])
        while house.version < 60:
            house.wait(1)
        self.check_lines(console, (
            ("wait 1", "error TooManyEdits"), ("come A 0:1", "error TooManyEdits"), ("close A", "error TooManyEdits"), ("undo", "ok 59")))

    def test_pieces(self):
        for text in PIECE_TEXTS:
            console, house = consoles()
            self.assertEqual(console(f"come a {text}"), "ok 1")
            self.assertEqual((console("row a"), house.pieces_of("a")[0][2]), (text, text.endswith("!")))

    def test_drawn_edits_against_a_house(self):
        source = random.Random(32)
        for _ in range(30):
            reader = Reader(told_table(source.choice(NAMES)), mark=source.choice(MARKS), when=source.choice(("late", "early")))
            made = source.choice((House, StrictHouse))
            house, other = [made(reader, room=6, patience=5) for _ in range(2)]
            console = Console(house)
            for _ in range(40):
                name, piece, ticks = source.choice(("a", "b", "c", "A")), random_piece(source, most_end=3), source.randrange(5)
                line, step = source.choice([
                    (f"come {name} {piece_text(piece)}", lambda: other.come(name, piece)), (f"wait {ticks}", lambda: other.wait(ticks)),
                    (f"close {name}", lambda: other.close(name)), ("undo", other.undo)])
                try:
                    wanted = f"ok {step()}"
                except (errors.WeaveError, errors.NoPacket) as error:
                    wanted = f"error {error.__class__.__name__}"
                self.assertEqual(console(line), wanted)
                self.assertTrue(house == other and house.edits() == other.edits())
                self.assertEqual(console("open"), " ".join(other.open_names()) or "-")
                self.assertEqual(console("lost"), " ".join(other.lost) or "-")
                self.assertEqual(console("told"), " ".join(
                    f"{name}:{','.join(map(str, packet))}" for name, packet in other.told) or "-")


class NoLines(Case):
    def test_blanks(self):
        console, house = consoles()
        house.come("a", (0, (5,), True))
        for line in ("come b 0:1", "wait 1", "close a", "undo", "open", "row a", "read a", "told", "lost"):
            wrong = [f" {line}", f"{line} ", f"  {line}", f"{line}  ", line.replace(" ", "  "), line.replace(" ", "\t"), line.replace(" ", ""),
                     f"{line}\n", f"\n{line}", f"{line} x", f"x {line}", line.upper(), line.capitalize(), line[:-1]]
            wrong = [one for one in wrong if one not in (line, "row \n", "come b 0:") and not one.startswith(("row a\n", "read a\n", "close a\n"))]
            self.check_no_lines(console, house, wrong)

    def test_other_lines(self):
        console, house = consoles()
        house.come("a", (0, (5,), True))
        self.check_no_lines(console, house, (
            "", " ", "  ", "come", "come a", "come a 0:1 0:1", "wait", "close", "close a a", "row", "read", "read a a", "row a b",
            "undo 1", "open a", "told a", "lost a", "undoo", "copy", "edits", "attempt", "come ", "wait ", "close ", "row ", "read ",
            "come  0:1", "come a  0:1", "come a 0:1 ", "a", "no line", "error", "time", "-", "open\n", "wait\n1"))

    def test_pieces_that_are_none(self):
        console, house = consoles()
        self.check_no_lines(console, house, [f"come {name} {text}" for name in ("a", "A") for text in WRONG_PIECES])

    def test_ticks_that_are_no_plain_decimals(self):
        console, house = consoles()
        self.check_no_lines(console, house, [f"wait {word}" for word in (
            "05", "00", "01", "+1", "-1", "1.0", "1_0", "0x1", "1e3", "x", "1000000000", "0000000001", "1" * 20000, "\u0661", "\u00b2",
            "1\n", "\n1", "1,", "None", "True")])
        self.assertEqual([console(f"wait {word}") for word in ("0", "1", "1000", "1001", "123456789", "999999999")],
                         ["error BadTicks", "ok 1", "ok 2"] + ["error BadTicks"] * 3)

    def test_any_values(self):
        console, house = consoles()
        self.check_no_lines(console, house, [*any_values(), ["undo"], ("undo",), b"open", {"open": 1}])


if __name__ == "__main__":
    unittest.main()
