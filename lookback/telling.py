"""Telling: the rows that a look has in a filling."""

from lookback.levels import SURE, levels_of
from lookback.steps import steps_of


def told(schema, filling, look):
    """The rising tuple of the rows of a look, each once."""
    return tuple(sorted(levels_of(steps_of(schema, look), tables_of(schema, filling))[-1]))


def tables_of(schema, filling):
    """The dict from each table's name to its rows, all of which are sure."""
    return {table[0]: {row: SURE for row in rows} for table, rows in zip(schema, filling)}
