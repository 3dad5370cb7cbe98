"""Trees: papers in the making, of one bound."""

from lookback.halves import left_of
from lookback.levels import NOW, SURE
from lookback.scenes import decided_change, end_at, has_sure, place_shift
from lookback.scenes import spot_behind, spot_with_less, that_can_be_at, top_spot
from lookback.shifts import shifts_of
from lookback.turns import Hanging, places_of_wrong, weight_of

MOST_ROWS = 30
MOST_PLACES = 12
MOST_OF_TABLE = 3
# The more a branch costs the less is left behind it, so fewer nodes are to be looked for there: by costs 0 to 8.
WORTHS = (6561, 2187, 729, 243, 81, 27, 9, 3, 1)


class Tree:
    """Nodes of a paper, those not yet gone into, the ways found, and by how much the bound has to rise to matter."""

    def __init__(self, scene, bound):
        self.scene = scene
        self.bound = bound
        self.nodes = [None]
        self.pending = []
        self.ways = []
        self.rise = None
        top = top_spot(scene, bound)
        end = end_at(scene, top)
        if end is None:
            self.pending.append((0, top, None))
        else:
            self.put_end(0, end, bound)

    def grow(self):
        """Go into one node: tell a way there, or turn."""
        number, spot, branch = self.pending.pop()
        if branch is not None:
            name, key, cost, after = branch
            spot = spot_behind(self.scene, spot, name, key, cost, after)
        wrong = wrong_rows(self.scene, spot)
        if wrong:
            self.put_turn(number, spot, wrong)
        else:
            self.nodes[number] = ("way",)
            self.ways.append(decided_change(self.scene, spot))

    def put_turn(self, number, spot, wrong):
        """Turn at what hangs together with what is wrong; branches that lead nowhere end at once."""
        name, key, kids = best_turn(self.scene, spot, wrong)
        self.note_left(spot.left)
        # Spots of the places that were only tried aren't asked for again.
        spot.fallen = {mark: other for mark, other in spot.fallen.items() if mark[:2] == (name, key)}
        branches = []
        for cost, after, end in kids:
            branches.append((after, len(self.nodes)))
            self.nodes.append(None)
            if end is not None:
                self.put_end(branches[-1][1], end, left_of(spot.left, cost))
        self.nodes[number] = ("turn", name, key, tuple(branches))
        alive = [(other, (name, key, cost, after)) for (cost, after, end), (same, other) in zip(kids, branches)
                 if end is None]
        self.pending.extend([(other, spot, branch) for other, branch in reversed(alive)])

    def put_end(self, number, end, left):
        """Put in an end where so much is left."""
        self.nodes[number] = end
        self.note_left(left)

    def note_left(self, left):
        """Note by how much more, where so much is left, something else can be."""
        rises = [] if left is None else [cost - left for cost in self.scene.prices if cost > left]
        if rises and (self.rise is None or rises[0] < self.rise):
            self.rise = rises[0]


def end_behind(scene, spot, name, key, cost, after):
    """What ends a paper behind a branch from a spot where nothing does, or None."""
    base = spot_with_less(scene, spot, name, key, cost)
    if base.end is not None:
        return base.end
    tables = {name: place_shift(scene, base, name, key, after)}
    for row, level in shifts_of(base.sights[0], tables)[-1].items():
        if level == (0 if row in scene.asked else SURE):
            return ("row", row)
    for number, sight in enumerate(base.sights[1:]):
        if has_sure(shifts_of(sight, tables)[-1]):
            return ("rule", number)
    return None


def wrong_rows(scene, spot):
    """The pairs of the number of a plan and a row that is there by now and shouldn't be, or the other way about."""
    levels = spot.sights[0].levels[-1]
    found = [(0, row) for row in scene.asked if levels[row] < NOW]
    found += [(0, row) for row, level in levels.items() if level >= NOW and row not in scene.asked]
    for number, sight in enumerate(spot.sights[1:]):
        found += [(number + 1, row) for row, level in sight.levels[-1].items() if level >= NOW]
    return found


def best_turn(scene, spot, wrong):
    """The name, key and kids of the turn that leaves least to be gone into."""
    best = None
    least = None
    for name, key in places_to_try(scene, spot, wrong):
        kids = kids_at(scene, spot, name, key)
        costs = [cost for cost, after, end in kids if end is None]
        worth = len(costs) if spot.left is None else sum([WORTHS[min(cost, len(WORTHS) - 1)] for cost in costs])
        if best is None or worth < least:
            best = (name, key, kids)
            least = worth
        if len(costs) <= 1:
            return best
    return best


def kids_at(scene, spot, name, key):
    """The triples (cost, after, end) of all that can be at a place; end is None where it has to be gone into."""
    found = []
    for cost, after in that_can_be_at(scene, spot, name, key):
        mark = (name, key, after)
        end = spot.dead[mark] if mark in spot.dead else end_behind(scene, spot, name, key, cost, after)
        if end is not None:
            spot.dead[mark] = end
        found.append((cost, after, end))
    return found


def places_to_try(scene, spot, wrong):
    """The places on which wrong rows hang that are worth a trial, the likeliest first."""
    hangings = [Hanging(scene, spot, number) for number in range(len(scene.plans))]
    lots = sorted([places_of_wrong(hangings[number], row) for number, row in wrong[:MOST_ROWS]], key=weight_of)
    tries = {}
    many = {}
    for places in lots:
        for place in sorted(places, key=lambda each: len(that_can_be_at(scene, spot, each[0], each[1]))):
            if place not in tries and many.get(place[0], 0) < MOST_OF_TABLE:
                tries[place] = True
                many[place[0]] = many.get(place[0], 0) + 1
    # Where all hangs on one after of one place there is no better turn.
    return list(tries)[:1] if weight_of(lots[0]) == 1 else list(tries)[:MOST_PLACES]
