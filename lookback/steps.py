"""Steps: looks taken apart into what is done one after another, each part once."""

from lookback.looks import PAIRED, called_columns, columns_by_name, joined_columns
from lookback.plain import found_again


def steps_of(schema, look):
    """The list of the steps of a look, each behind what it is made of, so that the look's own is the last.

    A step is ("of", name), ("rows", number, tests), ("columns", number, places), ("join", number, number, places),
    ("union", number, number) or ("gap", number, number): numbers are those of steps ahead, and cells are named by
    their places. Called has no step, as its rows are those within.
    """
    numbers = {}
    columns_and_number(columns_by_name(schema), numbers, [], look)
    return list(numbers)


def columns_and_number(known, numbers, seen, look):
    """The columns of a look and the number of its step, which is put behind the others if it is new."""
    word = look[0]
    if word == "of":
        return known[look[1]], number_of(numbers, look)
    if word in PAIRED:
        return paired_columns_and_number(known, numbers, seen, look)
    columns, one = columns_and_number(known, numbers, seen, look[1])
    if word == "rows":
        return columns, number_of(numbers, ("rows", one, tests_by_place(columns, look[2])))
    if word == "columns":
        return look[2], number_of(numbers, ("columns", one, places_of(columns, look[2])))
    return called_columns(columns, look[2]), one


def paired_columns_and_number(known, numbers, seen, look):
    """As columns_and_number, of join, union or gap; what was seen is told again, and not gone through."""
    found = found_again(seen, look)
    if found is None:
        word = look[0]
        columns, one = columns_and_number(known, numbers, seen, look[1])
        others, other = columns_and_number(known, numbers, seen, look[2])
        step = ("join", one, other, join_places(columns, others)) if word == "join" else (word, one, other)
        found = (joined_columns(columns, others) if word == "join" else columns, number_of(numbers, step))
        seen.append((look, found))
    return found


def number_of(numbers, step):
    """The number of a step; the dict of them keeps the order in which they came."""
    return numbers.setdefault(step, len(numbers))


def places_of(columns, words):
    """At which place of the columns each word stands."""
    return tuple([columns.index(word) for word in words])


def tests_by_place(columns, tests):
    """The tests, columns named by their places."""
    return tuple([test_by_place(columns, test) for test in tests])


def test_by_place(columns, test):
    """A test, columns named by their places."""
    word, column, other = test
    return (word, columns.index(column), other if word in ("is", "not") else columns.index(other))


def join_places(one, other):
    """Three tuples of places: of what both have in the one and in the other, of what the other has more in it."""
    common = [column for column in one if column in other]
    more = [column for column in other if column not in one]
    return (places_of(one, common), places_of(other, common), places_of(other, more))


def cut(row, places):
    """The values of a row at these places."""
    return tuple([row[place] for place in places])


def meets_all(row, tests):
    """Whether a row meets all tests by place."""
    return all([meets(row, test) for test in tests])


def meets(row, test):
    """Whether a row meets a test by place."""
    word, place, other = test
    if word == "is":
        return row[place] == other
    if word == "not":
        return row[place] != other
    alike = row[place] == row[other]
    return alike if word == "like" else not alike


def joined_parts(row, places):
    """The row of the one look and that of the other of which a row of their join is made."""
    in_one, in_other, more = places
    many = len(row) - len(more)
    cells = dict(zip(in_other + more, cut(row, in_one) + row[many:]))
    return row[:many], tuple([cells[place] for place in range(len(cells))])
