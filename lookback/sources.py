"""Sources: the least lots of rows of the tables that make a row of a look."""

from lookback.errors import NoSources
from lookback.levels import levels_of
from lookback.shifts import Sight, rows_by_cut
from lookback.steps import joined_parts, steps_of
from lookback.telling import tables_of


def sources(schema, filling, look, row):
    """The rising tuple of all sources of a row; () where it isn't there, NoSources of a look with a gap."""
    steps = steps_of(schema, look)
    if any([step[0] == "gap" for step in steps]):
        raise NoSources()
    sight = Sight(steps, levels_of(steps, tables_of(schema, filling)))
    return tuple(sorted(lots_for(sight, {}, len(steps) - 1, row)))


def lots_for(sight, known, number, row):
    """The list of all sources of a row of a step; each is found once."""
    if row not in sight.levels[number]:
        return []
    mark = (number, row)
    if mark not in known:
        known[mark] = least_lots(lots_by_form(sight, known, sight.steps[number], row))
    return known[mark]


def lots_by_form(sight, known, step, row):
    """Lots of which a row of a step is made, among them all least ones, by the sources of what is within."""
    word = step[0]
    if word == "of":
        return [((step[1], row),)]
    if word == "rows":
        return lots_for(sight, known, step[1], row)
    if word == "columns":
        inners = rows_by_cut(sight, step[1], step[2])[row]
        return [lot for inner in inners for lot in lots_for(sight, known, step[1], inner)]
    if word == "union":
        return lots_for(sight, known, step[1], row) + lots_for(sight, known, step[2], row)
    part, rest = joined_parts(row, step[3])
    ones = lots_for(sight, known, step[1], part)
    others = lots_for(sight, known, step[2], rest)
    return [tuple(sorted(set(one) | set(other))) for one in ones for other in others]


def least_lots(lots):
    """Those of the lots that hold no other one, each once."""
    found = []
    by_first = {}
    for lot in sorted({each: True for each in lots}, key=len):
        # One that is held within has no more pairs, so it came ahead, and its first pair is one of these.
        if not any([is_within(other, lot) for pair in lot for other in by_first.get(pair, [])]):
            found.append(lot)
            by_first.setdefault(lot[0], []).append(lot)
    return found


def is_within(other, lot):
    """Whether all pairs of the one lot are of the other."""
    return all([pair in lot for pair in other])
