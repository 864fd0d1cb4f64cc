"""Tidiers at work, piece by piece.

A moment at a place is a tuple (states, begins, ends): the states of all runs, the table first, and the begins and the
ends of their owners. A holding is a pair (moment, value) with the value that all of them read; it is None as long as
no piece covers the place.
"""

from fragweave.bounds import PIECES
from fragweave.errors import BadPiece, Fails, Nothing, TooMany
from fragweave.pieces import end_of, is_piece
from fragweave.places import compared
from fragweave.tables import entry_number, first_table
from fragweave.tidy import find_tidy
from fragweave.types import letters_of, ranked


def place_between(number, numbers):
    """Return the place of a number among the ranks of some numbers."""
    below = len({other for other in numbers if other < number})
    return 2 * below + (1 if number in numbers else 0)


def letter_over(moment, span, sign):
    """Return the letter of a piece with this (begin, end) and this sign of its value."""
    _, begins, ends = moment
    return (place_between(span[0], begins), place_between(span[1], ends), sign)


def moment_type(moment):
    """Return the type of the runs at a moment."""
    states, begins, ends = moment
    return (states, ranked(begins), ranked(ends), ())


def run_behind(table, run, span, sign):
    """Return (state, begin, end) of one run behind a piece."""
    state, begin, end = run
    who, following = table[state][entry_number(compared(span[0], begin), compared(span[1], end), sign)]
    return (following, *span) if who == "new" else (following, begin, end)


def moment_behind(tables, moment, span, sign, choice):
    """Return the moment behind a piece and a choice."""
    runs = list(zip(*moment))
    behind = [run_behind(table, run, span, sign) for table, run in zip(tables, runs)]
    if choice == "leave":
        behind = [behind[0], *runs[1:]]
    states, begins, ends = list(zip(*behind))
    return (states, begins, ends)


class Tidier:
    """Leaves places out of pieces, at once when they come, so that other tables read what a table reads.

    For each piece it keeps what the piece replaced, so that back needs to choose nothing again.
    """

    def __init__(self, table, *others):
        word, rows = find_tidy(table, *others)
        if word == "fails":
            raise Fails()
        self._tables = (table, *others)
        self._choices = {start: {letter: choice for letter, choice in zip(letters_of(start), choices)}
                         for start, choices in rows}
        self._pieces = []
        self._passed = []
        self._holdings = []
        # For each piece: how many holdings there were, and those from its begin to its end.
        self._replaced = []

    @property
    def row(self):
        """The tuple of the pieces that have come."""
        return tuple(self._pieces)

    @property
    def passed(self):
        """The tuple of the pieces as they were passed on."""
        return tuple(self._passed)

    def put(self, piece):
        """Take the next piece, and return it as it is passed on."""
        if not is_piece(piece):
            raise BadPiece(piece)
        if len(self._pieces) == PIECES:
            raise TooMany(PIECES)
        begin, values, last = piece
        end, size = end_of(piece), len(self._holdings)
        self._holdings.extend([None] * (end - size))
        self._replaced.append((size, self._holdings[begin:end]))
        self._pieces.append(piece)
        self._passed.append((begin, self._items_passed(begin, end, values), last))
        return self._passed[-1]

    def _items_passed(self, begin, end, values):
        """Let a piece take part at its places, and return the tuple of what is passed on of its values."""
        # At most places of a piece the moment is one that was met at another of its places.
        known = {}
        items = []
        for place, value in enumerate(values, start=begin):
            held = self._holdings[place]
            if value is None:
                items.append(None)
            elif held is None:
                many = len(self._tables)
                self._holdings[place] = (((0,) * many, (begin,) * many, (end,) * many), value)
                items.append(value)
            else:
                moment, worth = held
                key = (moment, compared(value, worth))
                if key not in known:
                    known[key] = self._chosen(moment, (begin, end), key[1])
                choice, behind, is_new = known[key]
                self._holdings[place] = (behind, value if is_new else worth)
                items.append(value if choice == "pass" else None)
        return tuple(items)

    def _chosen(self, moment, span, sign):
        """Return (choice, moment behind it, whether the value of the piece is then read)."""
        choice = self._choices[moment_type(moment)][letter_over(moment, span, sign)]
        states, begins, ends = moment
        number = entry_number(compared(span[0], begins[0]), compared(span[1], ends[0]), sign)
        who, _ = self._tables[0][states[0]][number]
        return (choice, moment_behind(self._tables, moment, span, sign, choice), who == "new")

    def back(self):
        """Take the last piece away, and return it as it came."""
        if not self._pieces:
            raise Nothing()
        piece = self._pieces.pop()
        self._passed.pop()
        size, held = self._replaced.pop()
        self._holdings[piece[0]:end_of(piece)] = held
        del self._holdings[size:]
        return piece

    def copy(self):
        """Return an independent Tidier with the same tables and pieces."""
        # The choices are known, so the new one is made for tables for which there is hardly anything to look for.
        twin = Tidier(first_table(), first_table())
        twin._tables = self._tables
        twin._choices = self._choices
        twin._pieces = list(self._pieces)
        twin._passed = list(self._passed)
        twin._holdings = list(self._holdings)
        twin._replaced = list(self._replaced)
        return twin

    def __len__(self):
        return len(self._pieces)
