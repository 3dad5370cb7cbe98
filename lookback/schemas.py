"""Schemas: which tables there are, and the keys and rows that these may have."""

from lookback.plain import are_unlike, are_words, is_rising, is_tuple, is_whole, is_word, product

MOST = 4


def is_schema(thing):
    """Whether it, of any kind, is a schema."""
    if not is_tuple(thing, 1, MOST) or not all([is_table(table) for table in thing]):
        return False
    return is_rising([table[0] for table in thing])


def is_table(thing):
    """Whether it, of any kind, is a table of a schema."""
    if not is_tuple(thing, 3, 3):
        return False
    name, columns, keys = thing
    if not is_word(name) or not are_columns(columns):
        return False
    return is_whole(keys) and 1 <= keys <= len(columns)


def are_columns(thing):
    """Whether it, of any kind, is the columns of a table with their values."""
    if not is_tuple(thing, 1, MOST) or not all([is_column(column) for column in thing]):
        return False
    return are_unlike([column[0] for column in thing])


def is_column(thing):
    """Whether it, of any kind, is a column with its values."""
    return is_tuple(thing, 2, 2) and is_word(thing[0]) and are_words(thing[1], 1, MOST)


def table_of(schema, name):
    """The table of this name."""
    return [table for table in schema if table[0] == name][0]


def table_if_named(schema, thing):
    """The table that it, of any kind, is the name of, or None."""
    if not is_word(thing) or thing not in [table[0] for table in schema]:
        return None
    return table_of(schema, thing)


def rising_values(columns):
    """The rising values of each of these columns."""
    return [sorted(values) for column, values in columns]


def key_of(schema, name, row):
    """The key of a row of a table."""
    return row[:table_of(schema, name)[2]]


def keys_of(schema, name):
    """The rising tuple of all keys that a table may have."""
    table = table_of(schema, name)
    return tuple(product(rising_values(table[1][:table[2]])))


def rows_with(schema, name, key):
    """The rising tuple of all rows with this key that a table may have."""
    if key not in keys_of(schema, name):
        return ()
    return rows_beyond(table_of(schema, name), key)


def rows_beyond(table, key):
    """The rising tuple of all rows of a table that begin with a key that there may be."""
    return tuple([key + rest for rest in product(rising_values(table[1][table[2]:]))])
