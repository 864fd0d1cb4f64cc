"""Integers, and their texts, as the whole package understands them."""


def is_integer(value):
    """Return whether any value is an integer; a bool is none."""
    return isinstance(value, int) and not isinstance(value, bool)


def is_within(value, least, most):
    """Return whether any value is an integer from least to most."""
    return is_integer(value) and least <= value <= most


def is_place(value):
    """Return whether any value is an integer from 0 on."""
    return is_integer(value) and value >= 0


def integer_read(word, most):
    """Return the integer from 0 to most that is written as this str, None if there is none."""
    if not word.isascii() or not word.isdigit():
        return None
    # Python refuses to read very long numbers, so their length is looked at first.
    if len(word) > len(str(most)):
        return None
    number = int(word)
    if number > most or str(number) != word:
        return None
    return number
