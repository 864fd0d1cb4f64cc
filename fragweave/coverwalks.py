"""Walks over cover types: what two runs read of pieces that are true or false.

A node is a cover type as the pair (core, falses), its core being (states, begins, ends, values).
"""

from fragweave.tables import entry_number
from fragweave.types import lie_of, lies_of, places_among, ranks_behind, spots_of
from fragweave.walks import ranks_at, takes_of

# The ranks of the value that was sent, and of those that the two runs read, behind a first piece of each kind.
FIRST_VALUES = {"greater": (0, 1, 1), "less": (1, 0, 0), "true": (0, 0, 0)}


def first_nodes(false):
    """Return a dict from the nodes behind first pieces, with at most so many false ones, to the kinds of the pieces."""
    nodes = {}
    for kind in FIRST_VALUES:
        falses = 0 if kind == "true" else 1
        if falses <= false:
            nodes[(((0, 0), (0, 0), (0, 0), FIRST_VALUES[kind]), falses)] = kind
    return nodes


def is_bare(core):
    """Return whether the second run reads the value that was sent, and the first run does not."""
    sent, one, other = core[3]
    return other == sent and one != sent


def spot_moves(begins, ends):
    """Return a list of (spot, numbers, behind) for the spots among the begins and the ends of the two owners.

    The numbers are those of the entries for the value "<"; behind is a dict from the words of both entries to the
    begins and the ends behind them.
    """
    takes = takes_of(2)
    begins_at, ends_at = ranks_at(begins, takes), ranks_at(ends, takes)
    shape = (begins, ends, ())
    return [(spot, [entry_number(*lie, 0) for lie in lies_of(spot, shape)],
             {words: (begins_at[spot[0]][words], ends_at[spot[1]][words]) for words, _ in takes})
            for spot in spots_of(shape, "all")]


def worth_moves(values):
    """Return a list of (place, falses, lies, behind) for the places of a new value among the triple of values.

    falses is 1 for a false piece, otherwise 0; the lies are those to the values that the runs read; behind is a dict
    from the words of both entries to the triple behind them.
    """
    sent, one, other = values
    takes = takes_of(2)
    return [(place, 0 if lie_of(place, sent) == 1 else 1, [lie_of(place, one), lie_of(place, other)],
             {words: ranks_behind(values, place, (False, *some)) for words, some in takes})
            for place in places_among(values)]


class CoverWalk:
    """What new pieces lead to from a core; it is worked out once for each core that is asked."""

    def __init__(self, one, other):
        self._tables = (one, other)
        self._spots = {}
        self._worths = {}
        self._steps = {}

    def steps(self, core):
        """Return a dict from each pair (core, falses) to (spot, place) of a piece that leads there.

        falses is what the number of false pieces grows by, 0 or 1.
        """
        if core not in self._steps:
            self._steps[core] = self._steps_from(core)
        return self._steps[core]

    def _steps_from(self, core):
        """Work out what steps returns."""
        states, begins, ends, values = core
        if (begins, ends) not in self._spots:
            self._spots[(begins, ends)] = spot_moves(begins, ends)
        if values not in self._worths:
            self._worths[values] = worth_moves(values)
        entries, other_entries = [table[state] for table, state in zip(self._tables, states)]
        steps = {}
        for spot, (number, other_number), shapes in self._spots[(begins, ends)]:
            for place, falses, (lie, other_lie), triples in self._worths[values]:
                who, following = entries[number + lie]
                other_who, other_following = other_entries[other_number + other_lie]
                words = (who, other_who)
                step = (((following, other_following), *shapes[words], triples[words]), falses)
                if step not in steps:
                    steps[step] = (spot, place)
        return steps

    def reached(self, false):
        """Return (came, fall): how each node came about, and how the first one that is bare did, None if none is.

        came is a dict from nodes to (node ahead, (spot, place)), of the nodes behind first pieces (None, kind); fall
        is such a pair, too. If there is one, came is not whole.
        """
        firsts = first_nodes(false)
        came = {node: (None, firsts[node]) for node in firsts}
        layer = list(came)
        while layer:
            behind = []
            for node in layer:
                core, falses = node
                steps = self.steps(core)
                for following, more in steps:
                    follower = (following, falses + more)
                    if falses + more > false or follower in came:
                        continue
                    came[follower] = (node, steps[(following, more)])
                    if is_bare(following):
                        return came, came[follower]
                    behind.append(follower)
            layer = behind
        return came, None

    def is_closed(self, nodes, false):
        """Return whether the nodes, the keys of a dict, hold all that comes of them and of first pieces, none bare."""
        if not all([node in nodes for node in first_nodes(false)]) or any([is_bare(core) for core, _ in nodes]):
            return False
        for core, falses in nodes:
            for following, more in self.steps(core):
                if falses + more <= false and (following, falses + more) not in nodes:
                    return False
        return True
