"""Promise 5: the texts of tables."""

import random
import re
import unittest

from fragweave.errors import BadText
from fragweave.readertexts import parse_table, table_text
from fragweave.tables import told_table
from tests.helpers import NAMES, any_values, random_table

STATE = "o0" * 27
LONGEST = "/".join(["n5" * 27] * 6)
SIGNS = "on012345/6-O \nx"


def is_beginning(text):
    """Whether some text of a table, as if each next state up to 5 were there, begins with this text."""
    if len(text) > len(LONGEST):
        return False
    shape = ["n" if sign in "on" else "5" if sign in "012345" else sign for sign in text]
    return "".join(shape) == LONGEST[:len(text)]


def error_of(text):
    """What parse_table has to say of a str: the number of its error, or None."""
    for number in range(len(text)):
        if not is_beginning(text[:number + 1]):
            return number
    states = text.split("/")
    whole = all(re.fullmatch("([on][0-5]){27}", state) for state in states)
    if not whole or any(int(sign) >= len(states) for sign in text if sign in "012345"):
        return len(text)
    return None


class TableTexts(unittest.TestCase):
    def test_texts(self):
        self.assertEqual(table_text(told_table("first")), STATE)
        self.assertEqual(table_text(told_table("last")), "n0" * 27)
        self.assertEqual(table_text(told_table("begins")), "n0" * 9 + "o0" * 18)
        self.assertEqual(table_text(told_table("vote")), "o1o0o1" * 9 + "/" + "n0o0n0" * 9)
        self.assertEqual(table_text(told_table("most")), "o2o1o2" * 9 + "/" + "o1" * 27 + "/" + "n1o1n1" * 9)

    def test_each_text_is_parsed_to_its_table(self):
        source = random.Random(8)
        tables = [told_table(name) for name in NAMES]
        tables.extend(random_table(source, states=1 + k % 6) for k in range(60))
        for table in tables:
            self.assertEqual(parse_table(table_text(table)), table)

    def check(self, text):
        number = error_of(text)
        if number is None:
            self.assertEqual(table_text(parse_table(text)), text)
            return
        with self.assertRaises(BadText) as caught:
            parse_table(text)
        self.assertEqual(caught.exception.number, number, text)

    def test_one_sign_changed(self):
        for text in (STATE, table_text(told_table("vote"))):
            for at in range(len(text) + 1):
                self.check(text[:at] + text[at + 1:])
                self.check(text[:at] + text[at:at + 1] + text[at:])
                for sign in SIGNS:
                    self.check(text[:at] + sign + text[at:])
                    self.check(text[:at] + sign + text[at + 1:])

    def test_texts_that_end_early(self):
        text = table_text(told_table("most"))
        for at in range(len(text) + 1):
            self.check(text[:at])
        for text, number in (("", 0), ("o", 1), ("o0", 2), ("o0n", 3), (STATE[:-1], 53), (STATE + "/", 55),
                             (STATE + "/" + STATE[:-2], 107), (LONGEST[:-1], 328)):
            with self.assertRaises(BadText) as caught:
                parse_table(text)
            self.assertEqual(caught.exception.number, number)

    def test_next_states_that_are_not_there(self):
        for states in range(1, 7):
            for state in range(states):
                for following in range(6):
                    words = [STATE] * states
                    words[state] = "o0" * 10 + f"n{following}" + "o0" * 16
                    self.check("/".join(words))
        for text, number in ((STATE[:-1] + "1", 54), ("o1" + STATE[2:], 54), (STATE + "/" + "o2" + STATE[2:], 109)):
            with self.assertRaises(BadText) as caught:
                parse_table(text)
            self.assertEqual(caught.exception.number, number)

    def test_the_first_wrong_sign_goes_ahead_of_a_next_state_that_is_not_there(self):
        with self.assertRaises(BadText) as caught:
            parse_table("o5" * 20 + "x" + "o5" * 7)
        self.assertEqual(caught.exception.number, 40)

    def test_six_states_and_a_seventh(self):
        self.assertEqual(table_text(parse_table(LONGEST)), LONGEST)
        for more in ("/", "/" + STATE, "/" + STATE[:5], "x", "o0", " ", "\n", "/" * 100):
            with self.assertRaises(BadText) as caught:
                parse_table(LONGEST + more)
            self.assertEqual(caught.exception.number, 329)

    def test_wrong_at_once(self):
        for text in ("/", "0o", "x", "-", " ", "\n", "first", "O0", "0"):
            with self.assertRaises(BadText) as caught:
                parse_table(text + STATE)
            self.assertEqual(caught.exception.number, 0)

    def test_signs_beyond_the_kinds_of_digits(self):
        with self.assertRaises(BadText) as caught:
            parse_table("o\u0660" + STATE[2:])
        self.assertEqual(caught.exception.number, 1)

    def test_any_value(self):
        for value in any_values():
            with self.assertRaises(BadText) as caught:
                parse_table(value)
            self.assertEqual(caught.exception.number, error_of(value) if isinstance(value, str) else None)


if __name__ == "__main__":
    unittest.main()
