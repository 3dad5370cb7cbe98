"""Scenes: what stands fast where ways are sought or a paper is gone through, and the spots there."""

from lookback.asks import as_asked
from lookback.halves import left_of, table_levels, that_can_be
from lookback.levels import SURE, step_levels
from lookback.shifts import Sight, shifted, shifts_of
from lookback.stands import stands_of
from lookback.steps import steps_of


class Scene:
    """The afters of each name and key, the rows that the look is to have, and the steps of it and of the rules."""

    def __init__(self, schema, filling, rules, stays, look, ask):
        self.widths = {table[0]: table[2] for table in schema}
        self.stands = stands_of(schema, filling, stays)
        self.costs = {name: costs_in(stand) for name, stand in self.stands.items()}
        self.asked = {row: True for row in as_asked(schema, filling, look, ask)}
        self.plans = [steps_of(schema, seen) for seen in [look] + [rule[1] for rule in rules]]
        self.used = sorted({step[1] for plan in self.plans for step in plan if step[0] == "of"})
        self.prices = sorted({cost for name in self.used for cost in self.costs[name]})


class Spot:
    """What is decided by name and key, what is left, and the levels of the tables and of each plan there.

    What was found there is kept: what ends a paper, afters that lead nowhere, and spots where less is left.
    """

    def __init__(self, decided, left, tables, sights, dead):
        self.decided = decided
        self.left = left
        self.tables = tables
        self.sights = sights
        self.dead = dead
        self.end = None
        self.fallen = {}


def costs_in(stand):
    """The rising list of what the afters of a table cost."""
    return sorted({cost for pairs in stand.values() for cost, after in pairs})


def top_spot(scene, bound):
    """The spot where nothing is decided."""
    tables = {name: table_levels(scene.stands[name], {}, bound) for name in scene.used}
    sights = [Sight(plan, levels_anew(plan, tables, [], scene.used)) for plan in scene.plans]
    return Spot({}, bound, tables, sights, {})


def levels_anew(plan, tables, levels, names):
    """The levels of each step of a plan; those that hang on none of these names stand as they were."""
    found = []
    fresh = []
    for number, step in enumerate(plan):
        fresh.append(step[1] in names if step[0] == "of" else any([fresh[part] for part in parts_of(step)]))
        found.append(step_levels(step, found, tables) if fresh[number] else levels[number])
    return found


def parts_of(step):
    """The numbers of the steps of which this one, no of, is made."""
    return step[1:2] if step[0] in ("rows", "columns") else step[1:3]


def spot_with_less(scene, spot, name, key, cost):
    """The spot where so much less is left, but all can be of this name and key that could; made once."""
    left = left_of(spot.left, cost)
    names = [other for other in scene.used if falls(scene.costs[other], left, spot.left)]
    if not names:
        return spot
    mark = (name, key, cost)
    if mark not in spot.fallen:
        tables = dict(spot.tables)
        for other in names:
            tables[other] = table_levels(scene.stands[other], spot.decided.get(other, {}), left)
        if name in names:
            tables[name].update(levels_of_place(scene, spot, name, key))
        sights = [Sight(sight.steps, levels_anew(sight.steps, tables, sight.levels, names)) for sight in spot.sights]
        fallen = Spot(spot.decided, left, tables, sights, {})
        fallen.end = end_at(scene, fallen)
        spot.fallen[mark] = fallen
    return spot.fallen[mark]


def end_at(scene, spot):
    """What ends a paper at a spot, or None."""
    levels = spot.sights[0].levels[-1]
    for row in scene.asked:
        if row not in levels:
            return ("row", row)
    for row, level in levels.items():
        if level == SURE and row not in scene.asked:
            return ("row", row)
    for number, sight in enumerate(spot.sights[1:]):
        if has_sure(sight.levels[-1]):
            return ("rule", number)
    return None


def has_sure(levels):
    """Whether a row is sure by these levels."""
    return any([level == SURE for level in levels.values()])


def falls(costs, left, before):
    """Whether one of these costs is more than what is left, and wasn't before."""
    return left is not None and any([left < cost <= before for cost in costs])


def levels_of_place(scene, spot, name, key):
    """The levels of the rows with this name and key."""
    levels = spot.tables[name]
    return {after: levels[after] for cost, after in scene.stands[name][key] if after in levels}


def place_shift(scene, spot, name, key, after):
    """The shift of the levels of a table, where this after is decided."""
    if name not in scene.used:
        return {}
    return {row: SURE if row == after else 0 for row in levels_of_place(scene, spot, name, key)}


def spot_behind(scene, spot, name, key, cost, after):
    """The spot where this after is decided, too."""
    base = spot_with_less(scene, spot, name, key, cost)
    shift = place_shift(scene, base, name, key, after)
    tables = dict(base.tables)
    if shift:
        tables[name] = shifted(tables[name], shift)
    sights = [sight_behind(sight, {name: shift}) for sight in base.sights]
    decided = with_decided(spot.decided, name, key, after)
    # What led nowhere ahead leads nowhere here, as less can be and more is sure.
    return Spot(decided, left_of(spot.left, cost), tables, sights, dict(spot.dead))


def sight_behind(sight, tables):
    """The levels of a plan where tables have these shifts; where none is another, all that is known of it stays."""
    shifts = shifts_of(sight, tables)
    if not any(shifts):
        return sight
    return Sight(sight.steps, [shifted(levels, shift) for levels, shift in zip(sight.levels, shifts)])


def with_decided(decided, name, key, after):
    """What is decided, and this too."""
    more = dict(decided)
    more[name] = dict(decided.get(name, {}))
    more[name][key] = after
    return more


def that_can_be_at(scene, spot, name, key):
    """The pairs (cost, after) of all that can be at a spot for a name and key of which nothing is decided."""
    return that_can_be(scene.stands[name][key], spot.left)


def decided_change(scene, spot):
    """The change that is decided; as before is the first of the afters, the only one that costs nothing."""
    found = []
    for name in sorted(spot.decided):
        for key, after in sorted_by_key(spot.decided[name]):
            before = scene.stands[name][key][0][1]
            if after != before:
                found.append((name, key, before, after))
    return tuple(found)


def sorted_by_key(decided):
    """The pairs (key, after) by rising keys; afters may be None and aren't compared, as keys are unlike."""
    return [(key, decided[key]) for key in sorted(decided)]
