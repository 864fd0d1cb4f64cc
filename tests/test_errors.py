"""Promise 3 and the interface: the error classes and the limits."""

import unittest

from fragweave import bounds, errors

ONE_FIELD = {
    "BadText": "number", "BadTable": "error", "BadMark": "value", "BadWhen": "value", "BadPiece": "piece",
    "BadRows": "rows", "BadCount": "value", "BadWord": "value", "BadReader": "value", "BadRoom": "value",
    "BadPatience": "value", "BadName": "value", "BadTicks": "value", "TooLong": "end", "TooMany": "limit",
    "Over": "value", "NoRoom": "value", "Rejected": "index", "Stranger": "place",
}
NO_FIELD = ("BadBatch", "TooManyEdits", "NothingToUndo", "Nothing", "Fails", "Busy")
LOOK_UPS = {"NoTable": "value", "NoEntry": "key", "NoPacket": "value"}
ALL = (*ONE_FIELD, *NO_FIELD, *LOOK_UPS)


class Errors(unittest.TestCase):
    def test_the_base_is_a_value_error(self):
        self.assertEqual(errors.WeaveError.__bases__, (ValueError,))

    def test_bases(self):
        for name in (*ONE_FIELD, *NO_FIELD):
            self.assertEqual(getattr(errors, name).__bases__, (errors.WeaveError,), name)
        for name in LOOK_UPS:
            self.assertEqual(getattr(errors, name).__bases__, (LookupError,), name)

    def test_only_the_failed_look_ups_are_look_up_errors(self):
        for name in ("WeaveError", *ALL):
            made = getattr(errors, name)
            self.assertEqual(issubclass(made, LookupError), name in LOOK_UPS, name)
            self.assertEqual(issubclass(made, ValueError), name not in LOOK_UPS, name)

    def test_none_derives_from_another_one(self):
        for name in ALL:
            for other in ALL:
                derives = issubclass(getattr(errors, name), getattr(errors, other))
                self.assertEqual(derives, name == other, (name, other))

    def test_the_field_is_the_very_object(self):
        for name, field in {**ONE_FIELD, **LOOK_UPS}.items():
            for value in (["a"], {"b": 1}, None, (1, 2), "text"):
                error = getattr(errors, name)(value)
                self.assertIs(getattr(error, field), value, name)
                self.assertEqual(list(vars(error)), [field], name)

    def test_classes_without_fields(self):
        for name in NO_FIELD:
            self.assertEqual(vars(getattr(errors, name)()), {}, name)

    def test_one_field_is_needed(self):
        for name in (*ONE_FIELD, *LOOK_UPS):
            with self.assertRaises(TypeError):
                getattr(errors, name)()
            with self.assertRaises(TypeError):
                getattr(errors, name)(1, 2)

    def test_an_error_is_shown_as_it_was_built(self):
        self.assertEqual(repr(errors.BadText(3)), "BadText(3)")
        self.assertEqual(repr(errors.NoTable("x")), "NoTable('x')")
        self.assertEqual(repr(errors.Nothing()), "Nothing()")


class Bounds(unittest.TestCase):
    def test_limits(self):
        self.assertEqual(
            (bounds.SIZE, bounds.PIECES, bounds.VALUE, bounds.STATES, bounds.FALSE, bounds.TRUE, bounds.BATCH),
            (5000, 2000, 10 ** 6, 6, 6, 200, 20))


if __name__ == "__main__":
    unittest.main()
