"""Levels: how far a row is there, through all steps of a look.

A row that may be there has level 1, one that is there by now 2, one that is sure to be 3; all others have none, 0.
What is sure is there by now, and what is there may be, so one level tells all three; a gap turns them about.
"""

from lookback.steps import cut, meets_all

MAY = 1
NOW = 2
SURE = 3


def levels_of(steps, tables):
    """For each step the dict from its rows to their levels, tables being those of the names."""
    found = []
    for step in steps:
        found.append(step_levels(step, found, tables))
    return found


def step_levels(step, found, tables):
    """The dict from the rows of a step to their levels, those of the steps ahead being found."""
    word = step[0]
    if word == "of":
        return tables[step[1]]
    one = found[step[1]]
    if word == "rows":
        return {row: level for row, level in one.items() if meets_all(row, step[2])}
    if word == "columns":
        return cut_levels(one, step[2])
    other = found[step[2]]
    if word == "join":
        return joined_levels(one, other, step[3])
    return united_levels(one, other) if word == "union" else levels_without(one, other)


def cut_levels(rows, places):
    """Of each row its cut; a cut of several is there as far as any of them."""
    found = {}
    for row, level in rows.items():
        part = cut(row, places)
        if found.get(part, 0) < level:
            found[part] = level
    return found


def joined_levels(one, other, places):
    """Of each two rows that fit the joined one, which is there as far as both are."""
    in_one, in_other, more = places
    rests = {}
    for row, level in other.items():
        rests.setdefault(cut(row, in_other), []).append((cut(row, more), level))
    return {row + rest: min(level, rest_level)
            for row, level in one.items() for rest, rest_level in rests.get(cut(row, in_one), [])}


def united_levels(one, other):
    """The rows of both, each there as far as in any of them."""
    found = dict(one)
    for row, level in other.items():
        if found.get(row, 0) < level:
            found[row] = level
    return found


def levels_without(one, other):
    """The rows of the one that may miss in the other: sure is what may not be there, and so on turned about."""
    found = {row: min(level, SURE - other.get(row, 0)) for row, level in one.items()}
    return {row: level for row, level in found.items() if level > 0}
