"""Telling: the rows that a look has in a filling."""

from lookback.looks import called_columns, columns_by_name, joined_columns


def told(schema, filling, look):
    """The rising tuple of the rows of a look, each once."""
    tables = {table[0]: rows for table, rows in zip(schema, filling)}
    columns, rows = columns_and_rows(columns_by_name(schema), tables, look)
    return tuple(sorted(rows))


def columns_and_rows(known, tables, look):
    """The columns and the rows, each once, of a look at tables with known columns."""
    word = look[0]
    if word == "of":
        return known[look[1]], tables[look[1]]
    columns, rows = columns_and_rows(known, tables, look[1])
    if word == "rows":
        return columns, rows_that_meet(columns, rows, look[2])
    if word == "columns":
        return look[2], cut_rows(columns, rows, look[2])
    if word == "called":
        return called_columns(columns, look[2]), rows
    other_columns, other_rows = columns_and_rows(known, tables, look[2])
    if word == "join":
        return joined_columns(columns, other_columns), joined_rows(columns, rows, other_columns, other_rows)
    if word == "union":
        return columns, each_once([row for part in (rows, other_rows) for row in part])
    return columns, rows_without(rows, other_rows)


def each_once(rows):
    """These rows, none twice."""
    return list({row: True for row in rows})


def places_of(columns, words):
    """At which place of the columns each word stands."""
    return [columns.index(word) for word in words]


def cut(row, places):
    """The values of a row at these places."""
    return tuple([row[place] for place in places])


def rows_that_meet(columns, rows, tests):
    """The rows that meet all tests."""
    return [row for row in rows if all([meets(columns, row, test) for test in tests])]


def meets(columns, row, test):
    """Whether a row meets a test."""
    word, column, other = test
    value = row[columns.index(column)]
    if word == "is":
        return value == other
    if word == "not":
        return value != other
    alike = value == row[columns.index(other)]
    return alike if word == "like" else not alike


def cut_rows(columns, rows, words):
    """Of each row the values of the columns that the words name, each cut once."""
    places = places_of(columns, words)
    return each_once([cut(row, places) for row in rows])


def joined_rows(one_columns, one_rows, other_columns, other_rows):
    """Of each two rows alike in all common columns the one's values, then what the other has more."""
    common = [column for column in one_columns if column in other_columns]
    more = [column for column in other_columns if column not in one_columns]
    common_places = places_of(other_columns, common)
    more_places = places_of(other_columns, more)
    rests = {}
    for row in other_rows:
        rests.setdefault(cut(row, common_places), []).append(cut(row, more_places))
    places = places_of(one_columns, common)
    return [row + rest for row in one_rows for rest in rests.get(cut(row, places), [])]


def rows_without(rows, others):
    """The rows that are not among the others."""
    away = {row: True for row in others}
    return [row for row in rows if row not in away]
