"""Stands: what is held as it is, and what may come in the place of what is there."""

from lookback.changes import cost_between, rows_by_key
from lookback.fillings import row_at
from lookback.plain import is_rising, is_tuple
from lookback.schemas import keys_of, rows_beyond, rows_with, table_if_named, table_of

WHOLE = ""


def are_stays(schema, thing):
    """Whether it, of any kind, is stays of the schema."""
    return isinstance(thing, tuple) and all([is_stay(schema, pair) for pair in thing]) and is_rising(thing)


def is_stay(schema, thing):
    """Whether it, of any kind, is a pair of a table's name and a column beyond its key, or "" for the whole table."""
    table = table_if_named(schema, thing[0]) if is_tuple(thing, 2, 2) else None
    if table is None or not isinstance(thing[1], str):
        return False
    return thing[1] == WHOLE or thing[1] in [column for column, values in table[1][table[2]:]]


def afters(schema, filling, stays, name, key):
    """The pairs (cost, after) of all that are let for this name and key, the cheapest first."""
    before = row_at(schema, filling, name, key)
    return afters_among(table_of(schema, name), stays, before, rows_with(schema, name, key))


def afters_among(table, stays, before, rows):
    """The pairs (cost, after) of those of these rising rows, and None, that are let in the place of one."""
    let = [after for after in [None] + list(rows) if is_let(table, stays, before, after)]
    # Sorted leaves what costs the same in its order, None first.
    return tuple(sorted([(cost_between(table, before, after), after) for after in let], key=lambda pair: pair[0]))


def is_let(table, stays, before, after):
    """Whether the stays let it that an after, a row or None, is in the place of what is there."""
    if after == before:
        return True
    held = [column for name, column in stays if name == table[0]]
    if WHOLE in held:
        return False
    if before is None or after is None:
        return True
    names = [column for column, values in table[1]]
    return all([after[names.index(column)] == before[names.index(column)] for column in held])


def stands_of(schema, filling, stays):
    """The dict from each table's name to the dict from each key that there may be to its afters."""
    found = {}
    for table, rows in zip(schema, filling):
        befores = rows_by_key(table, rows)
        found[table[0]] = {
            key: afters_among(table, stays, befores.get(key), rows_beyond(table, key))
            for key in keys_of(schema, table[0])}
    return found
