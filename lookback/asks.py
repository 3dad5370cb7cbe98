"""Asks: which rows of a look are to go and to come, and the ways to it."""

from lookback.changes import changed, is_change
from lookback.looks import columns_of
from lookback.plain import is_rising, is_tuple, is_tuple_of_words
from lookback.rules import broken
from lookback.schemas import table_of
from lookback.stands import is_let
from lookback.telling import told


def is_ask(schema, filling, look, thing):
    """Whether it, of any kind, is an ask of the look."""
    many = len(columns_of(schema, look))
    if not is_tuple(thing, 2, 2) or not all([are_rows_of_words(rows, many) for rows in thing]):
        return False
    there = {row: True for row in told(schema, filling, look)}
    drops, comes = thing
    return all([row in there for row in drops]) and not any([row in there for row in comes])


def are_rows_of_words(thing, many):
    """Whether it, of any kind, is a rising tuple of tuples of so many words."""
    return isinstance(thing, tuple) and all([is_row_of_words(row, many) for row in thing]) and is_rising(thing)


def is_row_of_words(thing, many):
    """Whether it, of any kind, is a tuple of so many words."""
    return is_tuple_of_words(thing) and len(thing) == many


def as_asked(schema, filling, look, ask):
    """The rising tuple of the look's rows without drops and with comes."""
    drops, comes = ask
    kept = [row for row in told(schema, filling, look) if row not in drops]
    return tuple(sorted(kept + list(comes)))


def is_way(schema, filling, rules, stays, look, ask, thing):
    """Whether it, of any kind, is a change that is let, does what is asked, and breaks no rule."""
    if not is_change(schema, filling, thing) or not are_let(schema, stays, thing):
        return False
    behind = changed(schema, filling, thing)
    if told(schema, behind, look) != as_asked(schema, filling, look, ask):
        return False
    return broken(schema, behind, rules) is None


def are_let(schema, stays, change):
    """Whether the stays let all of a change."""
    return all([is_let(table_of(schema, name), stays, before, after) for name, key, before, after in change])
