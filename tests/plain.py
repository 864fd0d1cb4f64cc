"""Types, rows over one place, and wrong papers, made a second way after the words of the document."""

from itertools import product

from fragweave.tables import entry_of, told_table
from tests.helpers import NAMES, SIGNS, plain_value, random_table, sign_of

# Words that papers have, also each in the place of another one.
WORDS = ("pass", "leave", "serves", "fails", "true", "less", "greater", "from", "never", "covers", "bare", "most",
         "endless")


def pieces_over(place, *, values=3):
    """Pieces that cover a place, with each order of begins, ends and values that place + 1 pieces can have."""
    return [
        (begin, (value,) * (end - begin), False)
        for begin in range(place + 1) for end in range(place + 1, 2 * place + 2) for value in range(values)
    ]


def plain_entry(table, state, new, owner, place):
    """The entry for a new piece and an owner, by the words of the document."""
    return entry_of(
        table, state, sign_of(new[0], owner[0]), sign_of(new[0] + len(new[1]), owner[0] + len(owner[1])),
        sign_of(plain_value(new, place), plain_value(owner, place)))


def plain_step(table, holding, new, place):
    """The pair (owner, state), the owner as a piece, behind a new piece over the place."""
    if holding is None:
        return (new, 0)
    who, following = plain_entry(table, holding[1], new, holding[0], place)
    return (new if who == "new" else holding[0], following)


def plain_read(table, row, place):
    """The value that is read of pieces over a place."""
    holding = None
    for piece in row:
        if plain_value(piece, place) is not None:
            holding = plain_step(table, holding, piece, place)
    return None if holding is None else plain_value(holding[0], place)


def fits(spans, span, rows):
    """Whether a piece with this (begin, end) may come behind others, in the class, all over one place."""
    begin, end = span
    for other_begin, other_end in spans:
        if rows == "begins" and begin < other_begin or rows == "ends" and end < other_end:
            return False
        if rows in ("nested", "stairs") and (begin, end) != (other_begin, other_end):
            turned = end if rows == "stairs" else -end
            other_turned = other_end if rows == "stairs" else -other_end
            if not (begin < other_begin and turned < other_turned or begin > other_begin and turned > other_turned):
                return False
    return True


def rows_over(place, rows, most, *, values=3):
    """All rows of the class of up to so many pieces, which all cover the place."""
    pieces = pieces_over(place, values=values)
    layer = [((), ())]
    for _ in range(most):
        layer = [
            ((*row, piece), (*spans, (piece[0], piece[0] + len(piece[1]))))
            for row, spans in layer for piece in pieces if fits(spans, (piece[0], piece[0] + len(piece[1])), rows)
        ]
        yield from [row for row, _ in layer]


def plain_ranks(numbers):
    """The ranks of numbers: how many lesser ones there are."""
    return tuple(len({other for other in numbers if other < number}) for number in numbers)


def plain_letters(start, rows):
    """The letters that are possible at a type, by the document's words."""
    _, begins, ends, tops = start
    found = []
    for begin in range(2 * len(set(begins)) + 1):
        for end in range(2 * len(set(ends)) + 1):
            lies = [(sign_of(begin, 2 * b + 1), sign_of(end, 2 * e + 1)) for b, e in zip(begins, ends)]
            possible = {
                "all": True,
                "nested": all(lie in ("==", "<>", "><") for lie in map("".join, lies)),
                "stairs": all(lie in ("==", "<<", ">>") for lie in map("".join, lies)),
                "begins": all(lie[0] in (("=", ">") if top else (">",)) for lie, top in zip(lies, tops)),
                "ends": all(lie[1] in (("=", ">") if top else (">",)) for lie, top in zip(lies, tops)),
            }[rows]
            if possible:
                found.extend([(begin, end, value) for value in range(3)])
    return tuple(found)


def plain_next(tables, start, letter, rows):
    """The type behind a letter, None where the runs read unlike values, by the document's words."""
    begin, end, value = letter
    owners = []
    following = []
    for table, state, b, e, top in zip(tables, *start[:3], start[3] or start[1]):
        who, after = entry_of(table, state, sign_of(begin, 2 * b + 1), sign_of(end, 2 * e + 1), "<=>"[value])
        side, own = (end, 2 * e + 1) if rows == "ends" else (begin, 2 * b + 1)
        owners.append((begin, end, value, True) if who == "new" else (2 * b + 1, 2 * e + 1, 1, top and side == own))
        following.append(after)
    if len({owner[2] for owner in owners}) > 1:
        return None
    tops = tuple(owner[3] for owner in owners) if rows in ("begins", "ends") else ()
    return (
        tuple(following), plain_ranks([owner[0] for owner in owners]), plain_ranks([owner[1] for owner in owners]), tops)


def plain_first(many, rows):
    """The first type."""
    return ((0,) * many, (0,) * many, (0,) * many, (True,) * many if rows in ("begins", "ends") else ())


def plain_closed(tables, types, rows):
    """Whether types are a closed set as an ascending tuple."""
    if type(types) is not tuple or not all(plain_is_type(tables, start, rows) for start in types):
        return False
    if list(types) != sorted(set(types)) or plain_first(len(tables), rows) not in types:
        return False
    return all(
        plain_next(tables, start, letter, rows) in types for start in types for letter in plain_letters(start, rows))


def plain_is_type(tables, value, rows):
    """Whether any value is a type by its form."""
    many = len(tables)
    if type(value) is not tuple or len(value) != 4:
        return False
    if any(type(part) is not tuple or len(part) != many for part in value[:3]) or type(value[3]) is not tuple:
        return False
    states, begins, ends, tops = value
    if any(type(number) is not int for number in (*states, *begins, *ends)) or any(type(top) is not bool for top in tops):
        return False
    if any(not 0 <= state < len(table) for state, table in zip(states, tables)):
        return False
    if len(tops) != (many if rows in ("begins", "ends") else 0):
        return False
    return all(set(ranks) == set(range(len(set(ranks)))) for ranks in (begins, ends))


def changed(value):
    """Values that are this one with one part changed, left out or doubled, at any depth, most of them wrong."""
    found = [None, [value], (value,), str(value)]
    if isinstance(value, bool):
        found += [not value, int(value), 2]
    elif isinstance(value, int):
        found += [value + 1, value - 1, bool(value), str(value), 10 ** 59, -value]
    elif isinstance(value, str):
        found += ["", value + " ", value.upper(), 0, *[word for word in WORDS if word != value]]
    elif isinstance(value, tuple):
        found += [list(value), value + value[-1:], value[:-1], value[1:], value[::-1], value + (None,)]
        for at, part in enumerate(value):
            found += [(*value[:at], other, *value[at + 1:]) for other in changed(part)]
            found.append((*value[:at], *value[at + 1:]))
    elif value is None:
        found += [0, False, "", ()]
    return found


def some_changed(source, value, *, many=60):
    """Some of the values that are this one with one part changed."""
    found = changed(value)
    return found if len(found) <= many else source.sample(found, many)


def other_form(table):
    """A table that reads the same: with the states in another order, and one state doubled that leads to the others."""
    count = len(table)
    order = [0, *range(count - 1, 0, -1)]
    renumbered = [tuple((who, order.index(following)) for who, following in table[state]) for state in order]
    if count == 6:
        return tuple(renumbered)
    doubled = tuple((who, count if following == 0 and at % 2 else following)
                    for at, (who, following) in enumerate(renumbered[0]))
    return tuple([doubled, *renumbered[1:], renumbered[0]])


def one_entry_changed(source, table):
    """The table with another entry in one place."""
    state, at = source.randrange(len(table)), source.randrange(27)
    who, following = table[state][at]
    entry = source.choice([("new" if who == "old" else "old", following), (who, source.randrange(len(table)))])
    changed_state = table[state][:at] + (entry,) + table[state][at + 1:]
    return table[:state] + (changed_state,) + table[state + 1:]


def span_of(piece):
    """The begin and the end of a piece."""
    return (piece[0], piece[0] + len(piece[1]))


def type_between(one, other):
    """The type of two runs with these pairs (owner, state), None if they read unlike values."""
    if one[0][1][0] != other[0][1][0]:
        return None
    spans = [span_of(one[0]), span_of(other[0])]
    return ((one[1], other[1]), plain_ranks([span[0] for span in spans]), plain_ranks([span[1] for span in spans]), ())


def plain_closure(tables, types, rows):
    """The ascending tuple of the first type, these types and all that they lead to, None if unlike values are read."""
    reached = {plain_first(len(tables), rows), *types}
    left = list(reached)
    while left:
        start = left.pop()
        for letter in plain_letters(start, rows):
            following = plain_next(tables, start, letter, rows)
            if following is None:
                return None
            if following not in reached:
                reached.add(following)
                left.append(following)
    return tuple(sorted(reached))


def shuffled(source, table, states):
    """A table that takes the same pieces as one with one state, in any of some states."""
    return tuple(tuple((who, source.randrange(states)) for who, _ in table[0]) for _ in range(states))


def slow_table(source):
    """A table that reads another value only behind some pieces, most of which it does not take."""
    count = source.choice((3, 4, 5, 6))
    states = [[("old", state)] * 27 for state in range(count)]
    for state, entries in enumerate(states):
        for _ in range(source.randint(1, 4)):
            entries[source.randrange(27)] = ("old", min(state + 1, count - 1))
        for _ in range(source.randint(0, 4)):
            entries[source.randrange(27)] = ("old", source.randrange(state + 1))
        for _ in range(source.randint(0, 3)):
            at = source.randrange(1, 27, 3)
            entries[at] = ("new", entries[at][1])
    for _ in range(source.randint(1, 3)):
        states[-1][source.randrange(27)] = ("new", source.randrange(count))
    return tuple(tuple(entries) for entries in states)


def table_of(*states):
    """The table with these entries by their numbers, written like "n1", all others being ("old", its own state)."""
    made = []
    for state, words in enumerate(states):
        entries = [words.get(at, f"o{state}") for at in range(27)]
        made.append(tuple(("new" if word[0] == "n" else "old", int(word[1])) for word in entries))
    return tuple(made)


def by_begin(**words):
    """The entries with these words for the begins "less", "equal" and "greater"."""
    return {at: words[side] for number, side in enumerate(("less", "equal", "greater")) if side in words
            for at in range(9 * number, 9 * number + 9)}


def plain_entries(table, state):
    """All entries of a state by their words: (begin, end, value, who, next)."""
    return [(*words, *entry_of(table, state, *words)) for words in product(SIGNS, SIGNS, SIGNS)]


def plain_reached(table, state=0):
    """The set of the states that come of a state."""
    reached = {state}
    left = [state]
    while left:
        for *_, following in plain_entries(table, left.pop()):
            if following not in reached:
                reached.add(following)
                left.append(following)
    return reached


def apart_table(source):
    """A table with states that never come about, each of which leads to others."""
    table = source.choice([told_table("vote"), told_table("most"), random_table(source, states=3)])
    many = len(table) + source.randint(1, 6 - len(table))
    return (*table, *random_table(source, states=many)[len(table):])


def many_tables(source, many):
    """The told tables, and so many of each kind: with an entry changed, drawn, slow, in another form, and more."""
    told = [told_table(name) for name in NAMES]
    tables = list(told)
    for count in range(many):
        drawn = random_table(source, states=1 + count % 6)
        tables += [one_entry_changed(source, source.choice(told)), drawn, slow_table(source), apart_table(source),
                   other_form(source.choice([*told, drawn])), shuffled(source, source.choice(told[:8]), 1 + count % 6)]
    return tables
