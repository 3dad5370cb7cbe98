"""Looks: their seven forms, and the columns that each has."""

from lookback.plain import are_unlike, are_words, found_again, is_tuple, is_word

DEEPEST = 8
MOST_TESTS = 4
PAIRED = ("join", "union", "gap")


def is_look(schema, thing):
    """Whether it, of any kind, is a look at the tables of the schema."""
    return columns_if_look(columns_by_name(schema), thing, DEEPEST) is not None


def columns_by_name(schema):
    """The dict from the names of the tables to their columns."""
    return {table[0]: tuple([column[0] for column in table[1]]) for table in schema}


def columns_if_look(known, thing, depth):
    """The columns of a look at what is known, at most so deep; None of anything else."""
    if depth == 0 or not is_tuple(thing, 2, 3) or not isinstance(thing[0], str):
        return None
    if thing[0] == "of":
        return known[thing[1]] if is_named(known, thing) else None
    one = columns_if_look(known, thing[1], depth - 1) if len(thing) == 3 else None
    if one is None:
        return None
    if thing[0] not in PAIRED:
        return columns_if_single(one, thing[0], thing[2])
    other = columns_if_look(known, thing[2], depth - 1)
    return None if other is None else columns_if_paired(one, thing[0], other)


def is_named(known, thing):
    """Whether a tuple that begins with of has a name that is known, and that alone."""
    return len(thing) == 2 and is_word(thing[1]) and thing[1] in known


def columns_if_single(columns, word, part):
    """The columns of rows, columns or called, this word and part, of a look with columns; else None."""
    if word == "rows":
        return columns if are_tests(columns, part) else None
    if word == "columns":
        return part if are_words(part, 1, len(columns)) and are_within(columns, part) else None
    if word == "called" and are_pairs(columns, part):
        behind = called_columns(columns, part)
        return behind if are_unlike(behind) else None
    return None


def columns_if_paired(one, word, other):
    """The columns of join, union or gap of two looks with these columns; else None."""
    if word == "join":
        return joined_columns(one, other)
    return one if one == other else None


def are_within(columns, words):
    """Whether all words are among the columns."""
    return all([word in columns for word in words])


def are_tests(columns, thing):
    """Whether it, of any kind, is the tests of a look with columns."""
    return is_tuple(thing, 1, MOST_TESTS) and all([is_test(columns, test) for test in thing])


def is_test(columns, thing):
    """Whether it, of any kind, is one test of a look with columns."""
    if not is_tuple(thing, 3, 3) or not all([is_word(part) for part in thing]):
        return False
    word, column, other = thing
    if word in ("is", "not"):
        return column in columns
    return word in ("like", "unlike") and are_within(columns, (column, other))


def are_pairs(columns, thing):
    """Whether it, of any kind, is pairs of unlike columns and what these are called."""
    if not is_tuple(thing, 1, len(columns)) or not all([is_pair(pair) for pair in thing]):
        return False
    named = [pair[0] for pair in thing]
    return are_unlike(named) and are_within(columns, named)


def is_pair(thing):
    """Whether it, of any kind, is two words, which may be alike."""
    return is_tuple(thing, 2, 2) and is_word(thing[0]) and is_word(thing[1])


def columns_of(schema, look):
    """The tuple of the columns of a look, however deep it is."""
    return columns_by(columns_by_name(schema), [], look)


def columns_by(known, seen, look):
    """The tuple of the columns of a look at what is known."""
    word = look[0]
    if word == "of":
        return known[look[1]]
    if word == "columns":
        return look[2]
    if word == "join":
        return columns_of_join(known, seen, look)
    one = columns_by(known, seen, look[1])
    return called_columns(one, look[2]) if word == "called" else one


def columns_of_join(known, seen, look):
    """As columns_by, of a join; what was seen is told again, and not gone through."""
    found = found_again(seen, look)
    if found is None:
        found = joined_columns(columns_by(known, seen, look[1]), columns_by(known, seen, look[2]))
        seen.append((look, found))
    return found


def called_columns(columns, pairs):
    """The columns behind called; all pairs at once, so that two may be exchanged."""
    names = dict(pairs)
    return tuple([names.get(column, column) for column in columns])


def joined_columns(one, other):
    """The one's columns, then those of the other that the one hasn't."""
    return one + tuple([column for column in other if column not in one])
