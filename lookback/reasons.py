"""Reasons: why a row of a look is there, form by form down to rows of the tables."""

from lookback.errors import NoReason
from lookback.looks import columns_of
from lookback.plain import is_same, is_tuple, is_tuple_of_words
from lookback.steps import cut, join_places, joined_parts, places_of
from lookback.telling import told


def reason_of(schema, filling, look, row):
    """One reason of a row; NoReason where it isn't there."""
    if not is_there(schema, filling, look, row):
        raise NoReason()
    return first_reason(schema, filling, look, row)


def shows_reason(schema, filling, look, row, thing):
    """Whether it, of any kind, is a reason of the row."""
    return is_there(schema, filling, look, row) and is_reason(schema, filling, look, row, thing)


def is_there(schema, filling, look, row):
    """Whether the look has this row."""
    return is_tuple_of_words(row) and row in told(schema, filling, look)


def first_reason(schema, filling, look, row):
    """The reason by the first of the grounds of a row that is there, and of all rows within."""
    start, parts = grounds(schema, filling, look, row)[0]
    return start + tuple([first_reason(schema, filling, part, inner) for part, inner in parts])


def is_reason(schema, filling, look, row, thing):
    """Whether it, of any kind, is a reason of a row that is there."""
    for start, parts in grounds(schema, filling, look, row):
        many = len(start) + len(parts)
        if is_tuple(thing, many, many) and is_same(thing[:len(start)], start):
            rest = list(zip(parts, thing[len(start):]))
            return all([is_reason(schema, filling, part, inner, reason) for (part, inner), reason in rest])
    return False


def grounds(schema, filling, look, row):
    """The pairs of how a reason of a row that is there may begin, all unlike, and of what it goes on with.

    That is the list of pairs (look, row) within of which the rest of the reason is made.
    """
    word = look[0]
    if word == "of":
        return [(("of", look[1], row), [])]
    if word == "columns":
        places = places_of(columns_of(schema, look[1]), look[2])
        inners = [inner for inner in told(schema, filling, look[1]) if cut(inner, places) == row]
        return [(("columns", inner), [(look[1], inner)]) for inner in inners]
    if word == "join":
        places = join_places(columns_of(schema, look[1]), columns_of(schema, look[2]))
        return [(("join",), list(zip(look[1:], joined_parts(row, places))))]
    if word == "union":
        sides = [side for side in (0, 1) if row in told(schema, filling, look[1 + side])]
        return [(("union", side), [(look[1 + side], row)]) for side in sides]
    # A row that is there meets all tests, and is none of the other look of a gap.
    return [((word,), [(look[1], row)])]


def used_by(reason):
    """The rising tuple of the pairs (name, row) of the tables' rows that a reason uses."""
    return tuple(sorted({pair: True for pair in pairs_used(reason)}))


def pairs_used(reason):
    """The list of the pairs (name, row) of the tables' rows that a reason uses, perhaps some twice."""
    word = reason[0]
    if word == "of":
        return [reason[1:]]
    within = reason[2:] if word in ("columns", "union") else reason[1:]
    return [pair for part in within for pair in pairs_used(part)]
