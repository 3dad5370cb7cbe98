"""Shifts: which levels are others where one more thing is decided, without going through all rows anew."""

from lookback.levels import SURE
from lookback.steps import cut, meets_all


class Sight:
    """The levels of all steps of a plan, and, as far as asked for, rows by their cuts."""

    def __init__(self, steps, levels):
        self.steps = steps
        self.levels = levels
        self.links = {}


def rows_by_cut(sight, number, places):
    """The dict from cuts of rows of a step to the lists of these rows; made once."""
    mark = (number, places)
    if mark not in sight.links:
        groups = {}
        for row in sight.levels[number]:
            groups.setdefault(cut(row, places), []).append(row)
        sight.links[mark] = groups
    return sight.links[mark]


def shifts_of(sight, tables):
    """For each step the dict from the rows with another level to that, 0 of none; tables are those of the names.

    Rows only ever lose what may be and gain what is sure, so that none is there that wasn't before.
    """
    shifts = []
    for number, step in enumerate(sight.steps):
        levels = sight.levels[number]
        shift = step_shift(sight, shifts, tables, step)
        shifts.append({row: level for row, level in shift.items() if levels.get(row, 0) != level})
    return shifts


def step_shift(sight, shifts, tables, step):
    """The dict from rows of a step to their levels, among them all that are others, those ahead being known."""
    word = step[0]
    if word == "of":
        return tables.get(step[1], {})
    one = shifts[step[1]]
    if word == "rows":
        return {row: level for row, level in one.items() if meets_all(row, step[2])}
    if word == "columns":
        return cut_shift(sight, one, step)
    other = shifts[step[2]]
    if word == "join":
        return joined_shift(sight, one, other, step)
    ones = sight.levels[step[1]]
    others = sight.levels[step[2]]
    rows = list(one) + list(other)
    if word == "union":
        return {row: max(level_now(one, ones, row), level_now(other, others, row)) for row in rows}
    return {row: min(level_now(one, ones, row), SURE - level_now(other, others, row)) for row in rows}


def level_now(shift, levels, row):
    """The level of a row behind a shift of these levels."""
    return shift[row] if row in shift else levels.get(row, 0)


def cut_shift(sight, one, step):
    """The levels of all cuts of rows within that have others."""
    groups = rows_by_cut(sight, step[1], step[2])
    levels = sight.levels[step[1]]
    parts = {cut(row, step[2]): True for row in one}
    return {part: max([level_now(one, levels, row) for row in groups[part]]) for part in parts}


def joined_shift(sight, one, other, step):
    """The levels of all joined rows of which one part has another."""
    in_one, in_other, more = step[3]
    found = {}
    if one:
        rests = rows_by_cut(sight, step[2], in_other)
        for row, level in one.items():
            for rest in rests.get(cut(row, in_one), []):
                found[row + cut(rest, more)] = min(level, level_now(other, sight.levels[step[2]], rest))
    if other:
        starts = rows_by_cut(sight, step[1], in_one)
        for rest, level in other.items():
            for row in starts.get(cut(rest, in_other), []):
                found[row + cut(rest, more)] = min(level, level_now(one, sight.levels[step[1]], row))
    return found


def shifted(levels, shift):
    """The levels behind a shift."""
    if not shift:
        return levels
    found = dict(levels)
    for row, level in shift.items():
        if level == 0:
            del found[row]
        else:
            found[row] = level
    return found
