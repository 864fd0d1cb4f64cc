"""Promise 4: the texts of pieces and rows."""

import random
import unittest

from fragweave.bounds import PIECES, SIZE, VALUE
from fragweave.errors import BadText
from fragweave.rowtexts import parse_piece, parse_row, piece_text, row_text
from tests.helpers import ROW, any_values, random_row

NO_PIECE_TEXTS = (
    "", " ", "-", ":", "!", "0", "0:", ":5", "0:!", "5", "0,5", "0:5,", "0:,5", "0:5,,6", "0:5 ", " 0:5", "0:5\n",
    "\n0:5", "0:5!!", "!0:5", "0:!5", "0!:5", "0:5!,6", "0::5", "0:5:6", "00:5", "01:5", "0:05", "0:00", "0:-1", "-1:5",
    "+1:5", "0:+5", "0:5.0", "0:5.", "0:..", "0:.5", ".:5", "0:1_0", "1_0:5", "0:a", "a:5", "0x1:5", "0:5;6", "0:5/6",
    f"0:{VALUE + 1}", f"{SIZE}:5", f"{SIZE - 1}:5,6", "0:" + "9" * 19000, "9" * 19000 + ":5", "0:None", "0:True",
    "0:5,6!7", "0 :5", "0: 5", "0:5 ,6", "2:5,.,7?", "2:5,.,7 !", "(0, (5,), False)",
    "0:\u0665", "0:\u00b2", "\u0661:5",
)


class PieceTexts(unittest.TestCase):
    def test_texts(self):
        for piece, text in (
                ((2, (5, None, 7), True), "2:5,.,7!"), ((0, (0,), False), "0:0"), ((0, (None,), True), "0:.!"),
                ((SIZE - 1, (VALUE,), False), "4999:1000000"), ((10, (None, None), False), "10:.,.")):
            self.assertEqual(piece_text(piece), text)
            self.assertEqual(parse_piece(text), piece)

    def test_wrong_texts(self):
        for text in NO_PIECE_TEXTS:
            with self.subTest(text=text[:40]), self.assertRaises(BadText) as caught:
                parse_piece(text)
            self.assertEqual(caught.exception.number, 0)

    def test_the_longest_piece(self):
        piece = (0, (VALUE,) * SIZE, True)
        self.assertEqual(parse_piece(piece_text(piece)), piece)
        with self.assertRaises(BadText):
            parse_piece(piece_text((1, (5,) * SIZE, False)))
        with self.assertRaises(BadText):
            parse_piece(piece_text((0, (None,) * (SIZE + 1), False)))

    def test_any_value(self):
        for value in any_values():
            with self.assertRaises(BadText) as caught:
                parse_piece(value)
            self.assertEqual(caught.exception.number, 0 if isinstance(value, str) else None)

    def test_one_sign_changed(self):
        text = "12:5,.,70!"
        for other in changed_texts(text, "0123456789:,.! -\nx"):
            self.assert_only_texts_are_parsed(other)

    def assert_only_texts_are_parsed(self, text):
        try:
            piece = parse_piece(text)
        except BadText as error:
            self.assertEqual(error.number, 0)
        else:
            self.assertEqual(piece_text(piece), text)


class RowTexts(unittest.TestCase):
    def test_texts(self):
        for row, text in (((), "-"), (ROW, "0:1,2 1:7,8 2:3!"), (((3, (9,), True),), "3:9!")):
            self.assertEqual(row_text(row), text)
            self.assertEqual(parse_row(text), row)

    def test_random_rows(self):
        source = random.Random(6)
        for _ in range(200):
            row = random_row(source)
            self.assertEqual(parse_row(row_text(row)), row)

    def test_the_first_wrong_word(self):
        for text, number in (
                ("", 0), (" ", 0), ("0:5 ", 1), (" 0:5", 0), ("0:5  0:6", 1), ("0:5 0:6  ", 2), ("- ", 0), (" -", 0),
                ("--", 0), ("0:5 -", 1), ("0:5 0:6 x 0:7 y", 2), ("0:5\n0:6", 0), ("0:5 0:6\n", 1), ("\n", 0)):
            with self.subTest(text=text), self.assertRaises(BadText) as caught:
                parse_row(text)
            self.assertEqual(caught.exception.number, number)

    def test_each_wrong_piece_text(self):
        for wrong in NO_PIECE_TEXTS:
            if " " in wrong:
                continue
            with self.subTest(text=wrong[:40]), self.assertRaises(BadText) as caught:
                parse_row(f"0:5 1:6 {wrong} 2:7")
            self.assertEqual(caught.exception.number, 2)

    def test_number_of_pieces(self):
        row = ((0, (5,), False),) * PIECES
        self.assertEqual(parse_row(row_text(row)), row)
        for more in (" 0:5", " ", " x", " 0:5 x"):
            with self.assertRaises(BadText) as caught:
                parse_row(row_text(row) + more)
            self.assertEqual(caught.exception.number, PIECES)
        with self.assertRaises(BadText) as caught:
            parse_row("0:5 x" + " 0:5" * PIECES)
        self.assertEqual(caught.exception.number, 1)

    def test_any_value(self):
        for value in any_values():
            with self.assertRaises(BadText) as caught:
                parse_row(value)
            self.assertEqual(caught.exception.number, 0 if isinstance(value, str) else None)

    def test_one_sign_changed(self):
        for other in changed_texts("0:1,2 11:. 2:3!", "012:,.! -"):
            words = other.split(" ")
            wrong = [k for k, word in enumerate(words) if not is_piece_text(word)]
            try:
                row = parse_row(other)
            except BadText as error:
                self.assertEqual(error.number, wrong[0], other)
            else:
                self.assertEqual(wrong, [], other)
                self.assertEqual(row_text(row), other)


def is_piece_text(word):
    """Whether parse_piece takes the word."""
    try:
        parse_piece(word)
    except BadText:
        return False
    return True


def changed_texts(text, signs):
    """The text with one sign left out, doubled, put in or changed."""
    others = []
    for at in range(len(text) + 1):
        others.extend(text[:at] + sign + text[at:] for sign in signs)
        others.extend(text[:at] + sign + text[at + 1:] for sign in signs)
        others.append(text[:at] + text[at + 1:])
        others.append(text[:at] + text[at:at + 1] + text[at:])
    return others


if __name__ == "__main__":
    unittest.main()
