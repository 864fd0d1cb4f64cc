"""What several tests share: the document's examples, values of every kind, and readings made a second way."""

import random

from fragweave.readers import Reader
from fragweave.tables import entry_of, told_table

NAMES = ("first", "last", "begins", "ends", "cover", "inner", "least", "ranked", "vote", "most")
MARKS = ("first", "last", "least", "greatest")
CLASSES = ("all", "nested", "stairs", "begins", "ends")
ROW = ((0, (1, 2), False), (1, (7, 8), False), (2, (3,), True))
SIGNS = ("<", "=", ">")


def document_names():
    """The assignments that the document's examples leave out."""
    names = {name.upper(): told_table(name) for name in ("first", "last", "begins", "vote", "most")}
    return {**names, "ROW": ROW, "told_table": told_table}


def check_example(case, text):
    """Run an example of the document as it stands there, and compare what its last line says."""
    lines = [line.strip() for line in text.strip().split("\n")]
    sources = [line.removeprefix(">>> ") for line in lines[:-1]]
    case.assertTrue(all(line.startswith(">>> ") for line in lines[:-1]))
    names = document_names()
    for source in sources[:-1]:
        exec(source, names)
    if lines[-1].startswith("raises "):
        with case.assertRaises(Exception) as caught:
            eval(sources[-1], names)
        case.assertEqual(shown_error(caught.exception), lines[-1].removeprefix("raises "))
    else:
        case.assertEqual(repr(eval(sources[-1], names)), lines[-1])


def shown_error(error):
    """An error as the document writes it: its class and its fields."""
    return f"{error.__class__.__name__}({', '.join(repr(field) for field in vars(error).values())})"


def any_values():
    """Values of every kind that "any value" has, and some results of the package."""
    deep = ()
    for _ in range(20):
        deep = (deep,)
    return [
        None, True, False, 0, 1, -1, 2, 3, 10 ** 60 - 1, -(10 ** 60 - 1), "", " ", "\n", "first", "a" * 20000, "~",
        (), [], {}, (None,), [None], {"a": 1}, {"": []}, ((),), [[]], deep, (0,) * 20000, [0] * 20000,
        (0, (5,)), (0, (5,), False, None), [0, (5,), False], (0, [5], False), ("0", (5,), False),
        {"begin": 0, "values": (5,), "last": False}, told_table("first"), told_table("most"),
        Reader(told_table("first")), (Reader(told_table("last")),), NotImplemented, object(), 1.0, b"first",
    ]


def random_piece(source, *, most_end=6, values=3):
    """A piece with few places and few values, so that pieces often meet."""
    begin = source.randrange(most_end)
    width = source.randint(1, most_end - begin)
    items = tuple(source.choice((None, *range(values), *range(values))) for _ in range(width))
    return (begin, items, source.random() < 0.3)


def random_row(source, *, most=7, most_end=6, values=3):
    """A row of such pieces."""
    return tuple(random_piece(source, most_end=most_end, values=values) for _ in range(source.randint(0, most)))


def random_table(source, *, states=None):
    """A table with any entries."""
    many = states or source.randint(1, 6)
    return tuple(
        tuple((source.choice(("old", "new")), source.randrange(many)) for _ in range(27)) for _ in range(many)
    )


def tables_to_try(seed):
    """The told tables and some others."""
    source = random.Random(seed)
    return [told_table(name) for name in NAMES] + [random_table(source) for _ in range(12)]


def sign_of(one, other):
    """How one integer lies to another one."""
    return "<" if one < other else "=" if one == other else ">"


def plain_value(piece, place):
    """The value of a piece at a place, by a search over its items."""
    begin, values, _ = piece
    for offset, item in enumerate(values):
        if begin + offset == place:
            return item
    return None


def plain_steps(table, row, place):
    """steps_at, written after the document's words."""
    steps = []
    for number, (begin, values, _) in enumerate(row):
        value = plain_value(row[number], place)
        if value is None:
            continue
        if not steps:
            steps.append((number, number, 0))
            continue
        _, owner, state = steps[-1]
        owner_begin, owner_values, _ = row[owner]
        who, following = entry_of(
            table, state, sign_of(begin, owner_begin),
            sign_of(begin + len(values), owner_begin + len(owner_values)),
            sign_of(value, plain_value(row[owner], place)))
        steps.append((number, owner if who == "old" else number, following))
    return tuple(steps)


def plain_end(row, mark):
    """The end that counts, by its words."""
    ends = [begin + len(values) for begin, values, last in row if last]
    if not ends:
        return None
    return {"first": ends[0], "last": ends[-1], "least": min(ends), "greatest": max(ends)}[mark]


def plain_whole(row, mark):
    """Whether a row is whole, place by place."""
    end = plain_end(row, mark)
    if end is None:
        return False
    return all(any(plain_value(piece, place) is not None for piece in row) for place in range(end))


def plain_moment(row, mark, when):
    """How many pieces have come when the packet is read, from the first one on."""
    for count in range(len(row) + 1) if when == "early" else [len(row)]:
        if plain_whole(row[:count], mark):
            return count
    return None


def plain_packet(table, row, mark, when):
    """What a reader reads, place by place."""
    moment = plain_moment(row, mark, when)
    if moment is None:
        return None
    come = row[:moment]
    owners = [plain_steps(table, come, place)[-1][1] for place in range(plain_end(come, mark))]
    return tuple(plain_value(row[owner], place) for place, owner in enumerate(owners))
