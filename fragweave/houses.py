"""Houses, which read packets that come mixed.

What a house knows of its packets is one tuple (time, told, lost, packets), packets being a dict from the name of each
open packet to (row, the time of its newest piece). It is made anew by each edit, and never changed, so that what was
there ahead of an edit needs only to be kept.
"""

from fragweave.bounds import BATCH, PIECES
from fragweave.errors import (BadBatch, BadName, BadPatience, BadPiece, BadReader, BadRoom, BadTicks, Busy, NoPacket,
                              NoRoom, NothingToUndo, Over, Rejected, Stranger, TooManyEdits, WeaveError)
from fragweave.integers import is_within
from fragweave.pieces import end_of, is_piece, places_of, value_at
from fragweave.readers import Reader
from fragweave.reading import many_holds, packet_read

MOST_LETTERS = 8
MOST_TICKS = 1000
# The words of the edits, each with the number of its arguments.
EDITS = {"come": 2, "wait": 1, "close": 1}


def is_packet_name(value):
    """Return whether any value is the name of a packet."""
    if not isinstance(value, str) or not 1 <= len(value) <= MOST_LETTERS:
        return False
    return value.isascii() and value.isalpha() and value.islower()


def is_edit(value):
    """Return whether any value is a tuple of the word of an edit and as many arguments as it has."""
    if not isinstance(value, tuple) or len(value) == 0 or not isinstance(value[0], str):
        return False
    return value[0] in EDITS and len(value) == 1 + EDITS[value[0]]


def is_batch(value):
    """Return whether any value is a list or tuple of edits, and not too long."""
    return isinstance(value, (list, tuple)) and len(value) <= BATCH and all([is_edit(edit) for edit in value])


def without(packets, names):
    """Return open packets without those with these names."""
    return {name: packets[name] for name in packets if name not in names}


def is_open(now, value):
    """Return whether any value is the name of an open packet."""
    return is_packet_name(value) and value in now[3]


def row_of(now, name):
    """Return the row of an open packet, () if there is none with this name."""
    row, _ = now[3].get(name, ((), None))
    return row


def is_over(now, name):
    """Return whether the packet with this name is over."""
    _, told, lost, _ = now
    return name in lost or name in [other for other, _ in told]


def behind_piece(reader, now, name, piece):
    """Return what there is behind a piece that comes to its packet."""
    time, told, lost, packets = now
    row = (*row_of(now, name), piece)
    packet = packet_read(reader, row) if reader.when == "early" else None
    if packet is None:
        return (time, told, lost, {**packets, name: (row, time)})
    return (time, (*told, (name, packet)), lost, without(packets, [name]))


def behind_ticks(patience, now, ticks):
    """Return what there is behind so many ticks."""
    start, told, lost, packets = now
    time = start + ticks
    gone = []
    if patience is not None:
        gone = [name for name in sorted(packets) if time - packets[name][1] > patience]
    return (time, told, (*lost, *gone), without(packets, gone))


def behind_close(reader, now, name):
    """Return what there is behind the close of an open packet."""
    time, told, lost, packets = now
    # An early reader reads none: what it could read, it has read when the last piece came, and it is not open.
    packet = packet_read(reader, row_of(now, name))
    rest = without(packets, [name])
    if packet is None:
        return (time, told, (*lost, name), rest)
    return (time, (*told, (name, packet)), lost, rest)


def strange_place(table, row, piece):
    """Return the first place at which a piece has another value than a table reads of a row, None if there is none."""
    holds = many_holds(table, row, [None] * end_of(piece))
    for place in places_of(piece):
        hold = holds[place]
        if hold is not None and hold[2] != value_at(piece, place):
            return place
    return None


class House:
    """Takes the pieces of several packets, and reads each packet for itself."""

    LIMIT = 60

    def __init__(self, reader, *, room=None, patience=None):
        if not isinstance(reader, Reader):
            raise BadReader(reader)
        if room is not None and not is_within(room, 1, PIECES):
            raise BadRoom(room)
        if patience is not None and not is_within(patience, 1, MOST_TICKS):
            raise BadPatience(patience)
        self._reader = reader
        self._room = room
        self._patience = patience
        self._busy = False
        self._now = (0, (), (), {})
        # For each edit that stands: the edit, and what there was ahead of it.
        self._past = ()

    @staticmethod
    def is_name(value):
        """Return whether any value is the name of a packet."""
        return is_packet_name(value)

    @property
    def reader(self):
        """The reader of the packets."""
        return self._reader

    @property
    def room(self):
        """The greatest number of pieces of all open packets together, or None."""
        return self._room

    @property
    def patience(self):
        """The number of ticks behind which a packet without new pieces is not lost yet, or None."""
        return self._patience

    @property
    def time(self):
        """The time."""
        return self._now[0]

    @property
    def version(self):
        """The number of the edits that stand."""
        return len(self._past)

    @property
    def told(self):
        """The tuple of (name, packet) of the packets that were read."""
        return self._now[1]

    @property
    def lost(self):
        """The tuple of the names of the packets that were lost."""
        return self._now[2]

    def _check_edit(self):
        """Raise the errors that each edit raises first."""
        if self._busy:
            raise Busy()
        if len(self._past) >= self.LIMIT:
            raise TooManyEdits()

    def _check_piece(self, name, piece):
        """Raise the further errors of come."""
        if not is_packet_name(name):
            raise BadName(name)
        if not is_piece(piece):
            raise BadPiece(piece)
        if is_over(self._now, name):
            raise Over(name)
        if self._room is not None and sum([len(row) for row, _ in self._now[3].values()]) >= self._room:
            raise NoRoom(self._room)

    def _edited(self, edit, now):
        """Let an edit stand, behind which there is this, and return the new version."""
        self._past = (*self._past, (edit, self._now))
        self._now = now
        return len(self._past)

    def _taken(self, name, piece):
        """Take a piece against which nothing speaks, and return the new version."""
        return self._edited(("come", name, piece), behind_piece(self._reader, self._now, name, piece))

    def come(self, name, piece):
        """Take a piece of a packet, and return the new version."""
        self._check_edit()
        self._check_piece(name, piece)
        return self._taken(name, piece)

    def wait(self, ticks):
        """Let the time grow, and return the new version."""
        self._check_edit()
        if not is_within(ticks, 1, MOST_TICKS):
            raise BadTicks(ticks)
        return self._edited(("wait", ticks), behind_ticks(self._patience, self._now, ticks))

    def close(self, name):
        """Let a packet be read or lost, and return the new version."""
        self._check_edit()
        if not is_packet_name(name):
            raise BadName(name)
        if not is_open(self._now, name):
            raise NoPacket(name)
        return self._edited(("close", name), behind_close(self._reader, self._now, name))

    def undo(self):
        """Revert the last edit that stands, and return the new version."""
        if self._busy:
            raise Busy()
        if not self._past:
            raise NothingToUndo()
        self._now = self._past[-1][1]
        self._past = self._past[:-1]
        return len(self._past)

    def attempt(self, batch, *, on_step=None):
        """Do all edits of a batch, or none of them, and return the new version."""
        if self._busy:
            raise Busy()
        if not is_batch(batch):
            raise BadBatch()
        now = self._now
        past = self._past
        whole = None
        try:
            # A list may be changed by on_step.
            for index, edit in enumerate(tuple(batch)):
                self._try_edit(index, edit)
                self._show(on_step)
            whole = True
        finally:
            self._busy = False
            if whole is None:
                self._now = now
                self._past = past
        return len(self._past)

    def _try_edit(self, index, edit):
        """Do the edit of a batch with this index."""
        word, *arguments = edit
        try:
            self._do(word, arguments)
        except (WeaveError, NoPacket):
            raise Rejected(index) from None

    def _do(self, word, arguments):
        """Do an edit."""
        if word == "come":
            self.come(*arguments)
        elif word == "wait":
            self.wait(*arguments)
        else:
            self.close(*arguments)

    def _show(self, on_step):
        """Let on_step look at this house, which takes no edits meanwhile; attempt ends that if on_step raises."""
        if on_step is not None:
            self._busy = True
            on_step(self)
            self._busy = False

    def open_names(self):
        """Return the ascending tuple of the names of the open packets."""
        return tuple(sorted(self._now[3]))

    def pieces_of(self, name):
        """Return the row of an open packet."""
        if not is_open(self._now, name):
            raise NoPacket(name)
        return row_of(self._now, name)

    def edits(self):
        """Return the tuple of the edits that stand."""
        return tuple([edit for edit, _ in self._past])

    def copy(self):
        """Return an independent house in the same state."""
        return self._copied(House(self._reader, room=self._room, patience=self._patience))

    def _copied(self, twin):
        """Return a new house, brought into the state of this one."""
        twin._now = self._now
        twin._past = self._past
        return twin

    def __getitem__(self, at):
        return packet_read(self._reader, self.pieces_of(at))

    def __contains__(self, x):
        return is_open(self._now, x)

    def __len__(self):
        return len(self._past)

    def __eq__(self, other):
        if not isinstance(other, House):
            return False
        if (self._room, self._patience) != (other._room, other._patience):
            return False
        return str(self._reader) == str(other._reader) and self._now == other._now

    def __str__(self):
        return f"{len(self._now[3])} open, {len(self.told)} read, {len(self.lost)} lost, {len(self._past)} edits"

    def __iter__(self):
        raise TypeError("a house is not looped over")


class StrictHouse(House):
    """A house that takes no piece with another value than the one that is read so far."""

    def __init__(self, reader, *, room=None, patience=None):
        super().__init__(reader, room=room, patience=patience)

    def come(self, name, piece):
        """Take a piece of a packet, and return the new version."""
        self._check_edit()
        self._check_piece(name, piece)
        place = strange_place(self._reader.table, row_of(self._now, name), piece)
        if place is not None:
            raise Stranger(place)
        return self._taken(name, piece)

    def copy(self):
        """Return an independent house in the same state."""
        return self._copied(StrictHouse(self._reader, room=self._room, patience=self._patience))
