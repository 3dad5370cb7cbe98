"""Fillings: the rows that the tables of a schema have."""

from lookback.plain import are_unlike, is_rising, is_tuple


def is_filling(schema, thing):
    """Whether it, of any kind, is a filling of the schema."""
    if not is_tuple(thing, len(schema), len(schema)):
        return False
    return all([are_rows(table, rows) for table, rows in zip(schema, thing)])


def are_rows(table, thing):
    """Whether it, of any kind, is the rising rows of a table, keys unlike."""
    name, columns, keys = table
    if not isinstance(thing, tuple) or not all([is_row(columns, row) for row in thing]):
        return False
    return is_rising(thing) and are_unlike([row[:keys] for row in thing])


def is_row(columns, thing):
    """Whether it, of any kind, has one value of each column."""
    if not is_tuple(thing, len(columns), len(columns)):
        return False
    return all([isinstance(cell, str) and cell in values for cell, (column, values) in zip(thing, columns)])


def row_at(schema, filling, name, key):
    """The row of a table with this key, or None."""
    for table, rows in zip(schema, filling):
        if table[0] == name:
            return row_with_key(rows, table[2], key)
    return None


def row_with_key(rows, keys, key):
    """The one of these rows that begins with this key, or None."""
    for row in rows:
        if row[:keys] == key:
            return row
    return None
