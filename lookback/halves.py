"""Halves: which rows of a look are sure, and which may be, where only a part is decided."""

from lookback.levels import MAY, NOW, SURE, levels_of
from lookback.stands import stands_of
from lookback.steps import steps_of


def sure(schema, filling, stays, decided, bound, look):
    """The rising tuple of the rows that the look has whatever comes of what isn't decided."""
    return rows_from(SURE, schema, stands_of(schema, filling, stays), decided, bound, look)


def may(schema, filling, stays, decided, bound, look):
    """The rising tuple of the rows that the look may have, as far as can be seen row by row."""
    return rows_from(MAY, schema, stands_of(schema, filling, stays), decided, bound, look)


def rows_from(least, schema, stands, decided, bound, look):
    """The rising tuple of the rows of a look of at least this level."""
    by_name = decided_by_name(schema, decided)
    left = left_of(bound, cost_of_decided(stands, decided))
    tables = {table[0]: table_levels(stands[table[0]], by_name[table[0]], left) for table in schema}
    found = levels_of(steps_of(schema, look), tables)[-1]
    return tuple(sorted([row for row, level in found.items() if level >= least]))


def decided_by_name(schema, decided):
    """The dict from each table's name to the dict from its keys of which something is decided to that."""
    return {table[0]: {key: after for name, key, after in decided if name == table[0]} for table in schema}


def cost_of_decided(stands, decided):
    """What all decided afters cost together."""
    return sum([cost_at(stands, name, key, after) for name, key, after in decided])


def cost_at(stands, name, key, after):
    """What one after costs that is let for a name and key."""
    return [cost for cost, other in stands[name][key] if other == after][0]


def left_of(bound, cost):
    """What is left of a bound, None being without end."""
    return None if bound is None else bound - cost


def that_can_be(pairs, left):
    """Those of the pairs (cost, after) that cost no more than what is left."""
    return pairs if left is None else [pair for pair in pairs if pair[0] <= left]


def table_levels(stand, decided, left):
    """The dict from the rows of a table that can be to their levels."""
    found = {}
    for key, pairs in stand.items():
        if key in decided:
            found[decided[key]] = SURE
        else:
            add_undecided(found, that_can_be(pairs, left))
    # That there is no row is an after, too, but no row.
    if None in found:
        del found[None]
    return found


def add_undecided(found, pairs):
    """Put in the levels of the rows of one key, as before being the first pair."""
    for cost, row in pairs:
        found[row] = MAY
    found[pairs[0][1]] = NOW if len(pairs) > 1 else SURE
