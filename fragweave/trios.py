"""Three pieces over one place: the owner and two further ones, as the questions of order and of twice need them.

A point is a tuple (begin, end, value) of places on a common scale. The owner and the first further piece lie to one
another as a letter tells; the second further piece has a letter among these two.
"""

from fragweave.places import compared
from fragweave.tables import entry_number
from fragweave.types import first_shape, places_among, ranked, spots_of
from fragweave.walks import first_node, node_of

# The letter of a piece that lies at the owner's begin, end and value.
SAME = (1, 1, 1)


def owner_letters(rows):
    """Return the list of the letters that are possible over one owner in the class."""
    return [(*spot, value) for spot in spots_of(first_shape(1, rows), rows) for value in range(3)]


def trios_of(letter, rows):
    """Return a list of (further, points) for all second pieces that are possible behind a first one with a letter.

    further is the letter of the second piece, points are those of the owner, of the first and of the second piece.
    """
    ranks = [ranked([1, at]) for at in letter]
    owner = tuple([2 * rank + 1 for rank, _ in ranks])
    first = tuple([2 * rank + 1 for _, rank in ranks])
    begins, ends, values = ranks
    return [((*spot, value), (owner, first, (*spot, value)))
            for spot in spots_of((begins, ends, ()), rows) for value in places_among(values)]


def lie_between(new, owner):
    """Return how the point of a new piece lies to that of an owner, like the letter over one owner."""
    return tuple([compared(one, other) for one, other in zip(new, owner)])


def number_between(new, owner):
    """Return the number of the entry for the points of a new piece and of an owner."""
    begin, end, value = lie_between(new, owner)
    return entry_number(begin, end, value)


def node_between(states, one, other):
    """Return the node of two runs in these states with owners at two points, None if their values are unlike."""
    if one == other:
        return (states, first_shape(2, "all"))
    if one[2] != other[2]:
        return None
    return (states, (ranked([one[0], other[0]]), ranked([one[1], other[1]]), ()))


def are_nodes_in(outcomes, types):
    """Return whether the nodes of all outcomes (pieces, node, origin) are among these types."""
    nodes = {node_of(item): True for item in types}
    return all([node in nodes for _, node, _ in outcomes])


def seeds_by_pieces(outcomes):
    """Return the seeds of a walk from a list of (pieces, node, origin), and from the first type of two runs."""
    seeds = [[] for _ in range(max([pieces for pieces, _, _ in outcomes], default=0) + 2)]
    seeds[1].append((first_node(2, "all"), None))
    for pieces, node, origin in outcomes:
        seeds[pieces].append((node, origin))
    return seeds
