"""Pairs of tables that come together for good, also from where they read unlike values."""

from fragweave.coverwalks import spot_moves
from fragweave.graphs import fewest_steps
from fragweave.types import lie_of, places_among
from fragweave.walks import ranks_at, takes_of

# The pair type behind the first piece.
FIRST_PAIR = ((0, 0), (0, 0), (0, 0), (0, 0))


def value_moves(values):
    """Return a list of (lies, behind) for the places of a new value among the values that two runs read.

    The lies are those to both values; behind is a dict from the words of both entries to the values behind them.
    """
    behind = ranks_at(values, takes_of(2))
    return [([lie_of(place, value) for value in values], behind[place]) for place in places_among(values)]


class PairGraph:
    """What new pieces lead to from the pair types of two tables."""

    def __init__(self, one, other):
        self._tables = (one, other)
        self._spots = {}
        self._worths = {}

    def follows(self, pair):
        """Return the list of the pair types behind a pair type."""
        states, begins, ends, values = pair
        if (begins, ends) not in self._spots:
            self._spots[(begins, ends)] = spot_moves(begins, ends)
        if values not in self._worths:
            self._worths[values] = value_moves(values)
        entries, other_entries = [table[state] for table, state in zip(self._tables, states)]
        found = {}
        for _, (number, other_number), shapes in self._spots[(begins, ends)]:
            for (lie, other_lie), worths in self._worths[values]:
                who, following = entries[number + lie]
                other_who, other_following = other_entries[other_number + other_lie]
                words = (who, other_who)
                behind = ((following, other_following), *shapes[words], worths[words])
                found[behind] = True
        return list(found)

    def whole(self):
        """Return a dict from each pair type that comes about to the list of those behind it."""
        graph = {}
        left = [FIRST_PAIR]
        while left:
            pair = left.pop()
            if pair not in graph:
                graph[pair] = self.follows(pair)
                left.extend(graph[pair])
        return graph


def is_apart(pair):
    """Return whether unlike values are read at a pair type."""
    one, other = pair[3]
    return one != other


def mend_numbers(one, other):
    """Return the ascending tuple of (pair type, number) for all pair types that come about.

    The number is that of the fewest further pieces behind which two tables are together for good, or None.
    """
    graph = PairGraph(one, other).whole()
    parted = fewest_steps(graph, [pair for pair in graph if is_apart(pair)])
    numbers = fewest_steps(graph, [pair for pair in graph if pair not in parted])
    return tuple([(pair, numbers.get(pair)) for pair in sorted(graph)])


def mends(one, other):
    """Return the greatest of the numbers of mend_numbers, None if one of them is None."""
    numbers = [number for _, number in mend_numbers(one, other)]
    return None if None in numbers else max(numbers)
