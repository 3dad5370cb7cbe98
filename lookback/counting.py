"""Counting: in how many ways each row of a look is told."""

from lookback.steps import cut, meets_all, steps_of


class Tally:
    """The counts of the rows of each step of a look, and for each join the rows of both sides by what they share."""

    def __init__(self, steps):
        self.steps = steps
        self.tallies = [{} for step in steps]
        self.sides = {number: ({}, {}) for number, step in enumerate(steps) if step[0] == "join"}


def counts(schema, filling, look):
    """The rising tuple of pairs (row, count) of all rows of a look."""
    return pairs_of(tally_of(schema, filling, look))


def pairs_of(tally):
    """The rising tuple of pairs (row, count) by now of the look whose tally it is."""
    return tuple(sorted(tally.tallies[-1].items()))


def tally_of(schema, filling, look):
    """The tally of a look: all rows of the tables come to one of nothing."""
    tally = Tally(steps_of(schema, look))
    take_in(tally, {table[0]: {row: 1 for row in rows} for table, rows in zip(schema, filling)})
    return tally


def take_in(tally, tables):
    """Take in rows of tables, by name, with other counts; told are the rows of the look that went, and that came."""
    shifts = []
    for number, step in enumerate(tally.steps):
        before = tally.tallies[number]
        shift = step_counts(tally, shifts, tables, number, step)
        shifts.append({row: count for row, count in shift.items() if before.get(row, 0) != count})
    gone = [row for row, count in shifts[-1].items() if count == 0]
    come = [row for row in shifts[-1] if row not in tally.tallies[-1]]
    for tallied, shift in zip(tally.tallies, shifts):
        put_counts(tallied, shift)
    return tuple(sorted(gone)), tuple(sorted(come))


def put_counts(tallied, shift):
    """Put other counts in the place of those of some rows, of which none is kept with 0."""
    for row, count in shift.items():
        if count == 0:
            del tallied[row]
        else:
            tallied[row] = count


def step_counts(tally, shifts, tables, number, step):
    """The dict from rows of a step to their counts, among them all that are others, shifts ahead being known."""
    word = step[0]
    if word == "of":
        return tables.get(step[1], {})
    if word == "rows":
        return {row: count for row, count in shifts[step[1]].items() if meets_all(row, step[2])}
    if word == "columns":
        return cut_counts(tally, shifts, number, step)
    if word == "join":
        return joined_counts(tally, shifts, number, step)
    rows = list(shifts[step[1]]) + list(shifts[step[2]])
    both = {row: [count_now(tally, shifts, part, row) for part in step[1:]] for row in rows}
    if word == "union":
        return {row: one + other for row, (one, other) in both.items()}
    return {row: one if other == 0 else 0 for row, (one, other) in both.items()}


def count_now(tally, shifts, number, row):
    """The count of a row of a step behind the shifts."""
    return shifts[number].get(row, tally.tallies[number].get(row, 0))


def cut_counts(tally, shifts, number, step):
    """The counts of all cuts of rows within that have others: by how much each of these is more or less."""
    found = {}
    for row, count in shifts[step[1]].items():
        part = cut(row, step[2])
        before = found.get(part, tally.tallies[number].get(part, 0))
        found[part] = before + count - tally.tallies[step[1]].get(row, 0)
    return found


def joined_counts(tally, shifts, number, step):
    """The counts of all joined rows of which one part has another."""
    in_one, in_other, more = step[3]
    one, other = shifts[step[1]], shifts[step[2]]
    ones, others = tally.sides[number]
    add_rows(ones, one, in_one)
    add_rows(others, other, in_other)
    pairs = [(row, rest) for row in one for rest in others.get(cut(row, in_one), {})]
    pairs += [(row, rest) for rest in other for row in ones.get(cut(rest, in_other), {})]
    # Rows that went are still among these, as what was joined of them goes, too.
    drop_rows(ones, one, in_one)
    drop_rows(others, other, in_other)
    return {row + cut(rest, more): count_now(tally, shifts, step[1], row) * count_now(tally, shifts, step[2], rest)
            for row, rest in pairs}


def add_rows(groups, shift, places):
    """Put the rows of a shift in the groups of their cuts."""
    for row in shift:
        group = groups.setdefault(cut(row, places), {})
        group[row] = True


def drop_rows(groups, shift, places):
    """Take the rows of a shift that went out of the groups of their cuts."""
    for row, count in shift.items():
        if count == 0:
            del groups[cut(row, places)][row]
