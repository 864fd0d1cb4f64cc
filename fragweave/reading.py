"""Reading whole packets, at once or piece by piece."""

from fragweave.bounds import PIECES
from fragweave.errors import BadPiece, Nothing, TooMany
from fragweave.pieces import end_of, greatest_end, is_piece, places_of, value_at
from fragweave.places import next_holding


def next_end(end, piece, mark):
    """Return the end that counts behind a piece, end being the one ahead of it."""
    if not piece[2]:
        return end
    if end is None or mark == "last":
        return end_of(piece)
    if mark == "least":
        return min(end, end_of(piece))
    if mark == "greatest":
        return max(end, end_of(piece))
    return end


def end_that_counts(row, mark):
    """Return the end that counts of a row, None if no piece has last."""
    end = None
    for piece in row:
        end = next_end(end, piece, mark)
    return end


def next_gap(gap, holdings):
    """Return the first place from gap on that nothing covers; all places below gap are covered."""
    while gap < len(holdings) and holdings[gap] is not None:
        gap += 1
    return gap


def is_whole(row, mark):
    """Return whether a row is whole."""
    end = end_that_counts(row, mark)
    covers = [None] * greatest_end(row)
    for number, piece in enumerate(row):
        for place in places_of(piece):
            covers[place] = number
    return end is not None and end <= next_gap(0, covers)


def early_moment(row, mark):
    """Return how many pieces of a row have come when they are a whole row first, None if they never are."""
    end = None
    gap = 0
    covers = [None] * greatest_end(row)
    for number, piece in enumerate(row):
        for place in places_of(piece):
            covers[place] = number
        end = next_end(end, piece, mark)
        gap = next_gap(gap, covers)
        if end is not None and end <= gap:
            return number + 1
    return None


def read_moment(reader, row):
    """Return how many pieces of a row have come when its packet is read, None if none is read."""
    if reader.when == "early":
        return early_moment(row, reader.mark)
    return len(row) if is_whole(row, reader.mark) else None


def holdings_of(table, row):
    """Return a list with the holding at each place below the greatest end of a row."""
    holdings = [None] * greatest_end(row)
    for number, piece in enumerate(row):
        for place in places_of(piece):
            holdings[place] = next_holding(table, row, holdings[place], number, place)
    return holdings


def values_held(row, holdings, end):
    """Return the tuple of the values of the owners at the places below end, all of which are covered."""
    return tuple([value_at(row[holdings[place][0]], place) for place in range(end)])


def packet_read(reader, row):
    """Return the packet that a reader reads of a row, None if it reads none."""
    moment = read_moment(reader, row)
    if moment is None:
        return None
    come = row[:moment]
    return values_held(come, holdings_of(reader.table, come), end_that_counts(come, reader.mark))


class Reading:
    """Pieces that come one by one, and what a reader reads of them.

    For each piece it keeps what the piece replaced, so that back needs to read nothing again.
    """

    def __init__(self, reader):
        self._reader = reader
        self._pieces = []
        self._holdings = []
        # For each number of pieces: the end that counts, the first gap, and the packet of an early reader.
        self._moments = [(None, 0, None)]
        # For each piece: how many holdings there were, and those from its begin to its end.
        self._replaced = []

    @property
    def row(self):
        """The tuple of the pieces that have come."""
        return tuple(self._pieces)

    @property
    def told(self):
        """What the reader reads of this row."""
        end, gap, packet = self._moments[-1]
        if self._reader.when == "early":
            return packet
        if end is None or gap < end:
            return None
        return values_held(self._pieces, self._holdings, end)

    def put(self, piece):
        """Add a piece at the end, and return how many there are."""
        if not is_piece(piece):
            raise BadPiece(piece)
        if len(self._pieces) == PIECES:
            raise TooMany(PIECES)
        self._pieces.append(piece)
        self._hold(piece)
        self._moments.append(self._next_moment(piece))
        return len(self._pieces)

    def _hold(self, piece):
        """Let the newest piece take part at the places that it covers, and keep what it replaces."""
        begin, end, size = piece[0], end_of(piece), len(self._holdings)
        self._holdings.extend([None] * (end - size))
        self._replaced.append((size, self._holdings[begin:end]))
        number = len(self._pieces) - 1
        for place in places_of(piece):
            holding = self._holdings[place]
            self._holdings[place] = next_holding(self._reader.table, self._pieces, holding, number, place)

    def _next_moment(self, piece):
        """Return the moment behind the newest piece."""
        end, gap, packet = self._moments[-1]
        end = next_end(end, piece, self._reader.mark)
        gap = next_gap(gap, self._holdings)
        # An early reader never reads a second time, and a late one is asked only when told is.
        if self._reader.when == "early" and packet is None and end is not None and end <= gap:
            packet = values_held(self._pieces, self._holdings, end)
        return (end, gap, packet)

    def back(self):
        """Take the last piece away, and return it."""
        if not self._pieces:
            raise Nothing()
        piece = self._pieces.pop()
        self._moments.pop()
        size, held = self._replaced.pop()
        self._holdings[piece[0]:end_of(piece)] = held
        del self._holdings[size:]
        return piece

    def owners(self):
        """Return the tuple of the owners of all places below the greatest end."""
        return tuple([None if holding is None else holding[0] for holding in self._holdings])

    def states(self):
        """Return the tuple of the states of all places below the greatest end."""
        return tuple([None if holding is None else holding[1] for holding in self._holdings])

    def copy(self):
        """Return an independent Reading with the same reader and pieces."""
        twin = Reading(self._reader)
        twin._pieces = list(self._pieces)
        twin._holdings = list(self._holdings)
        twin._moments = list(self._moments)
        twin._replaced = list(self._replaced)
        return twin

    def __len__(self):
        return len(self._pieces)

    def __eq__(self, other):
        if not isinstance(other, Reading):
            return False
        return self.row == other.row and str(self._reader) == str(other._reader)
