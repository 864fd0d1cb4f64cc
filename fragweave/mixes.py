"""Pieces that come from some queues in any mix, and the packets that a reader reads of them.

A queue is a tuple of the numbers of pieces of one row; they come in its order. A mix is a tuple of the numbers of the
queues from which one piece after another comes. Places at which the same pieces have values, which lie to one another
in the same way, have the same owners in each mix: they are of one kind, and only the first one of each kind is looked
at. A cell is a number for a pair (place, holding), the holding being (owner, state) or None.

A node is a tuple (taken, end, cells, packet): how many pieces have come from each queue, the end that counts, the
cells of the places that are looked at, and the packet, if it is read already; then end and cells do not matter and
are None.
"""

from fragweave.pieces import greatest_end, value_at
from fragweave.places import next_holding
from fragweave.reading import end_with


def columns_of(row):
    """Return a list with, for each place below all ends that may count, the tuple of what the pieces have there."""
    reach = greatest_end([piece for piece in row if piece[2]])
    return [tuple([value_at(piece, place) for piece in row]) for place in range(reach)]


def pattern_of(column):
    """Return the tuple of the ranks of the values of a column, None where there is no value."""
    steps = sorted({item for item in column if item is not None})
    ranks = {item: rank for rank, item in enumerate(steps)}
    return tuple([None if item is None else ranks[item] for item in column])


class Mixer:
    """What pieces make of the nodes; what a piece makes of a cell is worked out once."""

    def __init__(self, reader, row, queues):
        self._reader = reader
        self._row = row
        self._queues = queues
        self._columns = columns_of(row)
        patterns = {}
        # For each place, and for each kind: the number of its kind, and its first place.
        self._kinds = []
        self._firsts = []
        for place, column in enumerate(self._columns):
            kind = patterns.setdefault(pattern_of(column), len(patterns))
            self._kinds.append(kind)
            if kind == len(self._firsts):
                self._firsts.append(place)
        self._cells = [(place, None) for place in self._firsts]
        self._numbers = {cell: number for number, cell in enumerate(self._cells)}
        # For each piece a dict from the cells that it met to those behind it.
        self._behind = [{} for _ in row]

    def first_node(self):
        """Return the node of which no pieces have come."""
        return ((0,) * len(self._queues), None, tuple(range(len(self._firsts))), None)

    def nodes_behind(self, node):
        """Return a list of (queue, node) for each queue from which a piece can come."""
        taken = node[0]
        found = []
        for queue, numbers in enumerate(self._queues):
            if taken[queue] < len(numbers):
                behind = (*taken[:queue], taken[queue] + 1, *taken[queue + 1:])
                found.append((queue, self._node_behind(node, behind, numbers[taken[queue]])))
        return found

    def _node_behind(self, node, taken, number):
        """Return the node behind the piece with this number."""
        _, end, cells, packet = node
        if packet is not None:
            return (taken, None, None, packet)
        end = end_with(end, self._row[number], self._reader.mark)
        cells = self._cells_behind(cells, number)
        if self._reader.when == "early":
            packet = self._packet_in(end, cells)
        return (taken, end, cells, None) if packet is None else (taken, None, None, packet)

    def _cells_behind(self, cells, number):
        """Return the tuple of the cells behind the piece with this number."""
        known = self._behind[number]
        for cell in cells:
            if cell not in known:
                known[cell] = self._cell_behind(cell, number)
        return tuple([known[cell] for cell in cells])

    def _cell_behind(self, cell, number):
        """Return the cell behind the piece with this number, which perhaps does not cover its place."""
        place, holding = self._cells[cell]
        if self._columns[place][number] is None:
            return cell
        behind = (place, next_holding(self._reader.table, self._row, holding, number, place))
        if behind not in self._numbers:
            self._numbers[behind] = len(self._cells)
            self._cells.append(behind)
        return self._numbers[behind]

    def _packet_in(self, end, cells):
        """Return the packet that is read with this end and these cells, None if the pieces are not whole."""
        if end is None:
            return None
        holdings = [self._cells[cell][1] for cell in cells]
        if None in [holding for first, holding in zip(self._firsts, holdings) if first < end]:
            return None
        return tuple([self._columns[place][holdings[self._kinds[place]][0]] for place in range(end)])

    def packet_of(self, node):
        """Return the packet of a node of which all pieces have come, None if none is read."""
        _, end, cells, packet = node
        # What an early reader did not read when the last piece came, it never reads.
        return packet if packet is not None else self._packet_in(end, cells)


def joined(found, key, number, example):
    """Put so many mixes, and the least of them, to those that a dict has of a key."""
    many, least = found.get(key, (0, example))
    found[key] = (many + number, least)


def mixes_read(reader, row, queues):
    """Return a tuple of (packet, number, example) for each packet that is read of the mixes of some queues.

    Nodes are kept in the order of their least mixes, so that what is found first of a packet is its example.
    """
    mixer = Mixer(reader, row, queues)
    layer = {mixer.first_node(): (1, ())}
    for _ in row:
        behind = {}
        for node, (number, example) in layer.items():
            for queue, follower in mixer.nodes_behind(node):
                joined(behind, follower, number, (*example, queue))
        layer = behind
    packets = {}
    for node, (number, example) in layer.items():
        joined(packets, mixer.packet_of(node), number, example)
    return tuple([(packet, *packets[packet]) for packet in packets])
