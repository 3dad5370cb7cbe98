"""Turns: at what a row that is wrong hangs on."""

from lookback.levels import MAY, NOW, SURE
from lookback.scenes import that_can_be_at
from lookback.shifts import rows_by_cut
from lookback.steps import joined_parts


class Hanging:
    """What rows of one plan hang on at a spot; each is found once."""

    def __init__(self, scene, spot, at):
        self.scene = scene
        self.spot = spot
        self.sight = spot.sights[at]
        self.known = {}


def places_of_wrong(hanging, row):
    """The dict from places (name, key), at one of which something has to change for a wrong row, to weights."""
    number = len(hanging.sight.steps) - 1
    return places_for(hanging, number, row, hanging.sight.levels[number][row] >= NOW)


def places_for(hanging, number, row, goes):
    """The places at one of which something has to change that a row of a step, there by now, goes, or comes."""
    mark = (number, row, goes)
    if mark not in hanging.known:
        step = hanging.sight.steps[number]
        hanging.known[mark] = places_to_go(hanging, step, row) if goes else places_to_come(hanging, step, row)
    return hanging.known[mark]


def places_to_go(hanging, step, row):
    """As places_for; the row is there by now, but not sure."""
    word = step[0]
    if word == "of":
        name, key = place_of(hanging, step, row)
        return {(name, key): len(that_can_be_at(hanging.scene, hanging.spot, name, key)) - 1}
    if word == "rows":
        return places_for(hanging, step[1], row, True)
    if word == "columns":
        rows = [inner for inner in rows_within(hanging, step, row) if level_of(hanging, step[1], inner) >= NOW]
        return lightest([places_for(hanging, step[1], inner, True) for inner in rows])
    if word == "join":
        sides = [side for side in joined_sides(step, row) if level_of(hanging, side[0], side[1]) < SURE]
        return together([places_for(hanging, number, part, True) for number, part in sides])
    if word == "union":
        sides = [number for number in step[1:] if level_of(hanging, number, row) >= NOW]
        return lightest([places_for(hanging, number, row, True) for number in sides])
    lots = []
    if level_of(hanging, step[1], row) < SURE:
        lots.append(places_for(hanging, step[1], row, True))
    if level_of(hanging, step[2], row) >= MAY:
        lots.append(places_for(hanging, step[2], row, False))
    return together(lots)


def places_to_come(hanging, step, row):
    """As places_for; the row may be there, but isn't by now."""
    word = step[0]
    if word == "of":
        return {place_of(hanging, step, row): 1}
    if word == "rows":
        return places_for(hanging, step[1], row, False)
    if word == "columns":
        return together([places_for(hanging, step[1], inner, False) for inner in rows_within(hanging, step, row)])
    if word == "join":
        sides = [side for side in joined_sides(step, row) if level_of(hanging, side[0], side[1]) < NOW]
        return lightest([places_for(hanging, number, part, False) for number, part in sides])
    if word == "union":
        sides = [number for number in step[1:] if level_of(hanging, number, row) >= MAY]
        return together([places_for(hanging, number, row, False) for number in sides])
    lots = []
    if level_of(hanging, step[1], row) < NOW:
        lots.append(places_for(hanging, step[1], row, False))
    if level_of(hanging, step[2], row) >= NOW:
        lots.append(places_for(hanging, step[2], row, True))
    return lightest(lots)


def level_of(hanging, number, row):
    """The level of a row of a step."""
    return hanging.sight.levels[number].get(row, 0)


def place_of(hanging, step, row):
    """The name and key of a row of a table."""
    return (step[1], row[:hanging.scene.widths[step[1]]])


def rows_within(hanging, step, row):
    """The rows within a step of columns whose cut this row is."""
    return rows_by_cut(hanging.sight, step[1], step[2])[row]


def joined_sides(step, row):
    """The pairs of the number of a side of a join and its part of a row."""
    return list(zip(step[1:3], joined_parts(row, step[3])))


def together(lots):
    """The places of all lots: there are several ways out, and at one of them something has to change."""
    found = {}
    for places in lots:
        for place, weight in places.items():
            found[place] = found.get(place, 0) + weight
    return found


def lightest(lots):
    """That of the lots whose places weigh least: of several things that all have to change one is enough."""
    return min(lots, key=weight_of)


def weight_of(places):
    """What places weigh together."""
    return sum(places.values())
