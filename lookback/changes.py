"""Changes: rows of a filling that go, come, or stay with other cells."""

from lookback.fillings import is_row, row_at
from lookback.plain import is_rising, is_tuple
from lookback.schemas import table_if_named, table_of


def is_change(schema, filling, thing):
    """Whether it, of any kind, is a change of the filling."""
    if not isinstance(thing, tuple) or not all([is_part(schema, filling, part) for part in thing]):
        return False
    return is_rising([part[:2] for part in thing])


def is_part(schema, filling, thing):
    """Whether it, of any kind, is what a change tells of one name and key."""
    table = table_if_named(schema, thing[0]) if is_tuple(thing, 4, 4) else None
    if table is None or not is_row(table[1][:table[2]], thing[1]):
        return False
    name, key, before, after = thing
    if not is_row_or_none(table, key, before) or not is_row_or_none(table, key, after):
        return False
    return before == row_at(schema, filling, name, key) and after != before


def is_row_or_none(table, key, thing):
    """Whether it, of any kind, is None or a row of the table with this key."""
    return thing is None or is_row(table[1], thing) and thing[:table[2]] == key


def changed(schema, filling, change):
    """The filling behind a change of this one."""
    return tuple([changed_rows(table, rows, change) for table, rows in zip(schema, filling)])


def changed_rows(table, rows, change):
    """The rising rows of one table behind a change."""
    by_key = rows_by_key(table, rows)
    for name, key, before, after in change:
        if name == table[0]:
            by_key[key] = after
    return tuple(sorted([row for row in by_key.values() if row is not None]))


def rows_by_key(table, rows):
    """The dict from the keys of these rows of a table to them."""
    return {row[:table[2]]: row for row in rows}


def between(schema, one, other):
    """The change of the one filling behind which is the other."""
    found = []
    for table, rows, others in zip(schema, one, other):
        befores = rows_by_key(table, rows)
        afters = rows_by_key(table, others)
        for key in sorted(set(befores) | set(afters)):
            if befores.get(key) != afters.get(key):
                found.append((table[0], key, befores.get(key), afters.get(key)))
    return tuple(found)


def back_of(change):
    """The change that undoes this one."""
    return tuple([(name, key, after, before) for name, key, before, after in change])


def cost_of(schema, change):
    """What a change costs, all its rows together."""
    return sum([cost_between(table_of(schema, name), before, after) for name, key, before, after in change])


def cost_between(table, before, after):
    """What it costs that a row of a table, or None, is put in the place of another one of its key."""
    if before is None:
        return 0 if after is None else cost_to_come(table, after)
    if after is None:
        return len(before)
    return len([cell for cell, old in zip(after, before) if cell != old])


def cost_to_come(table, row):
    """1 for each cell, and 1 more for each that is not of the key and not usual."""
    name, columns, keys = table
    rest = list(zip(row, columns))[keys:]
    return len(row) + len([cell for cell, (column, values) in rest if cell != values[0]])
