"""Reading whole packets, at once or piece by piece."""

from fragweave.bounds import PIECES
from fragweave.errors import BadPiece, Nothing, TooMany
from fragweave.pieces import end_of, is_piece, places_of, value_at
from fragweave.places import next_holding

# Over so many places, at the most, it is kept what comes of a piece, as long as hardly more than every fourth piece
# brings something new.
FEW = 8
KEPT = 200


def end_counted(ends, mark):
    """Return the one of some ends, in the order of coming, that counts, None if there is none."""
    if not ends:
        return None
    if mark == "least":
        return min(ends)
    if mark == "greatest":
        return max(ends)
    return ends[0] if mark == "first" else ends[-1]


def end_with(end, piece, mark):
    """Return the end that counts behind one more piece, end being the one ahead of it; None if there is none."""
    if not piece[2]:
        return end
    return end_counted([end_of(piece)] if end is None else [end, end_of(piece)], mark)


def end_that_counts(row, mark):
    """Return the end that counts of a row, None if no piece has last."""
    return end_counted([end_of(piece) for piece in row if piece[2]], mark)


def next_gap(gap, holdings):
    """Return the first place from gap on that nothing covers; all places below gap are covered."""
    while gap < len(holdings) and holdings[gap] is not None:
        gap += 1
    return gap


def first_covers(row, end):
    """Return a list with, for each place below end, how many pieces have come when it is covered, None if never."""
    covers = [None] * end
    left = end
    for count, (begin, values, _) in enumerate(row, start=1):
        # All that is beyond this costs time for each piece, and most pieces come when all is covered.
        if left == 0:
            break
        if begin >= end:
            continue
        place = begin - 1
        for item in values[:end - begin]:
            place += 1
            if covers[place] is None and item is not None:
                covers[place] = count
                left -= 1
    return covers


def is_whole(row, mark):
    """Return whether a row is whole."""
    end = end_that_counts(row, mark)
    return end is not None and None not in first_covers(row, end)


def full_counts(covers):
    """Return a list with, for each place, how many pieces have come when all places below it are covered.

    It ends with the first place that is never covered.
    """
    counts = [0]
    for count in covers:
        if count is None:
            break
        counts.append(max(count, counts[-1]))
    return counts


def early_moment(row, mark):
    """Return how many pieces of a row have come when they are a whole row first, None if they never are."""
    lasts = [(count, end_of(piece)) for count, piece in enumerate(row, start=1) if piece[2]]
    if not lasts:
        return None
    # Mostly the first end is enough, and then the places behind it need not be looked at.
    counted = reach = lasts[0][1]
    counts = full_counts(first_covers(row, reach))
    # An end counts from its own piece on up to the next piece with last, or to the end of the row.
    stops = [count for count, _ in lasts[1:]] + [len(row) + 1]
    for (count, end), stop in zip(lasts, stops):
        counted = end_counted([counted, end], mark)
        if counted > reach:
            reach = max([other for _, other in lasts])
            counts = full_counts(first_covers(row, reach))
        if counted < len(counts) and counts[counted] < stop:
            return max(count, counts[counted])
    return None


def read_moment(reader, row):
    """Return how many pieces of a row have come when its packet is read, None if none is read."""
    if reader.when == "early":
        return early_moment(row, reader.mark)
    return len(row) if is_whole(row, reader.mark) else None


def many_holds(table, row, holds):
    """Return the list of the holds of the least places behind the pieces of a row, holds being those ahead of it.

    The hold of a place is (begin, end, value, state), of its owner, or None.
    """
    behind = list(holds)
    size = len(behind)
    for begin, values, _ in row:
        if begin >= size:
            continue
        end = begin + len(values)
        place = begin - 1
        for value in values[:size - begin]:
            place += 1
            if value is None:
                continue
            hold = behind[place]
            if hold is None:
                behind[place] = (begin, end, value, 0)
                continue
            own_begin, own_end, own_value, state = hold
            # This is what compared and entry_number do, written out since it is done for each place of each piece.
            number = ((0 if begin < own_begin else 9 if begin == own_begin else 18)
                      + (0 if end < own_end else 3 if end == own_end else 6)
                      + (0 if value < own_value else 1 if value == own_value else 2))
            who, following = table[state][number]
            if who == "new":
                behind[place] = (begin, end, value, following)
            elif following != state:
                behind[place] = (own_begin, own_end, own_value, following)
    return behind


def few_holds(table, row, end):
    """Return the holds of the places below end behind a row.

    Over few places the same holds and the same pieces come again and again, so it is kept what comes of them, as long
    as they do.
    """
    found = [(None,) * end]
    numbers = {found[0]: 0}
    known = {}
    here = 0
    for at, piece in enumerate(row):
        there = known.get((here, piece))
        if there is None:
            if len(known) > KEPT + at // 4:
                return many_holds(table, row[at:], found[here])
            holds = tuple(many_holds(table, (piece,), found[here]))
            there = numbers.setdefault(holds, len(found))
            if there == len(found):
                found.append(holds)
            known[(here, piece)] = there
        here = there
    return found[here]


def values_held(row, holdings, end):
    """Return the tuple of the values of the owners at the places below end, all of which are covered."""
    return tuple([value_at(row[holdings[place][0]], place) for place in range(end)])


def packet_read(reader, row):
    """Return the packet that a reader reads of a row, None if it reads none."""
    moment = read_moment(reader, row)
    if moment is None:
        return None
    come = row[:moment]
    end = end_that_counts(come, reader.mark)
    holds = few_holds(reader.table, come, end) if end <= FEW else many_holds(reader.table, come, [None] * end)
    return tuple([value for _, _, value, _ in holds])


class Reading:
    """Pieces that come one by one, and what a reader reads of them.

    For each piece it keeps what the piece replaced, so that back needs to read nothing again.
    """

    def __init__(self, reader):
        self._reader = reader
        self._pieces = []
        self._holdings = []
        # For each number of pieces: the end that counts, the first gap, and the packet of an early reader.
        self._moments = [(None, 0, None)]
        # For each piece: how many holdings there were, and those from its begin to its end.
        self._replaced = []

    @property
    def row(self):
        """The tuple of the pieces that have come."""
        return tuple(self._pieces)

    @property
    def told(self):
        """What the reader reads of this row."""
        end, gap, packet = self._moments[-1]
        if self._reader.when == "early":
            return packet
        if end is None or gap < end:
            return None
        return values_held(self._pieces, self._holdings, end)

    def put(self, piece):
        """Add a piece at the end, and return how many there are."""
        if not is_piece(piece):
            raise BadPiece(piece)
        if len(self._pieces) == PIECES:
            raise TooMany(PIECES)
        self._pieces.append(piece)
        self._hold(piece)
        self._moments.append(self._next_moment(piece))
        return len(self._pieces)

    def _hold(self, piece):
        """Let the newest piece take part at the places that it covers, and keep what it replaces."""
        begin, end, size = piece[0], end_of(piece), len(self._holdings)
        self._holdings.extend([None] * (end - size))
        self._replaced.append((size, self._holdings[begin:end]))
        number = len(self._pieces) - 1
        for place in places_of(piece):
            holding = self._holdings[place]
            self._holdings[place] = next_holding(self._reader.table, self._pieces, holding, number, place)

    def _next_moment(self, piece):
        """Return the moment behind the newest piece."""
        end, gap, packet = self._moments[-1]
        end = end_with(end, piece, self._reader.mark)
        gap = next_gap(gap, self._holdings)
        # An early reader never reads a second time, and a late one is asked only when told is.
        if self._reader.when == "early" and packet is None and end is not None and end <= gap:
            packet = values_held(self._pieces, self._holdings, end)
        return (end, gap, packet)

    def back(self):
        """Take the last piece away, and return it."""
        if not self._pieces:
            raise Nothing()
        piece = self._pieces.pop()
        self._moments.pop()
        size, held = self._replaced.pop()
        self._holdings[piece[0]:end_of(piece)] = held
        del self._holdings[size:]
        return piece

    def owners(self):
        """Return the tuple of the owners of all places below the greatest end."""
        return tuple([None if holding is None else holding[0] for holding in self._holdings])

    def states(self):
        """Return the tuple of the states of all places below the greatest end."""
        return tuple([None if holding is None else holding[1] for holding in self._holdings])

    def copy(self):
        """Return an independent Reading with the same reader and pieces."""
        twin = Reading(self._reader)
        twin._pieces = list(self._pieces)
        twin._holdings = list(self._holdings)
        twin._moments = list(self._moments)
        twin._replaced = list(self._replaced)
        return twin

    def __len__(self):
        return len(self._pieces)

    def __eq__(self, other):
        if not isinstance(other, Reading):
            return False
        return self.row == other.row and str(self._reader) == str(other._reader)
