"""Papers: what shows that no change does as well as a told one."""

from lookback.asks import is_way
from lookback.changes import cost_of
from lookback.halves import cost_at
from lookback.levels import SURE
from lookback.plain import is_same, is_tuple, is_tuple_of_words, is_whole, is_word
from lookback.scenes import Scene, decided_change, has_sure, spot_behind, that_can_be_at, top_spot


def shows_way(schema, filling, rules, stays, look, ask, change, paper):
    """Whether the change is a way, and the paper shows that no other one costs as little; both of any kind."""
    if not is_way(schema, filling, rules, stays, look, ask, change):
        return False
    scene = Scene(schema, filling, rules, stays, look, ask)
    return is_paper(scene, cost_of(schema, change), change, paper)


def shows_two(schema, filling, rules, stays, look, ask, one, other, paper):
    """Whether both are ways of one cost, unlike, and the paper shows that none costs less; all three of any kind."""
    if not all([is_way(schema, filling, rules, stays, look, ask, change) for change in (one, other)]):
        return False
    cost = cost_of(schema, one)
    if one == other or cost_of(schema, other) != cost:
        return False
    return is_paper(Scene(schema, filling, rules, stays, look, ask), cost - 1, None, paper)


def shows_none(schema, filling, rules, stays, look, ask, paper):
    """Whether the paper, of any kind, shows that there is no way."""
    return is_paper(Scene(schema, filling, rules, stays, look, ask), None, None, paper)


def is_paper(scene, bound, change, paper):
    """Whether it, of any kind, is a paper of this bound, its ends "way" being of this change, or none of None."""
    if not isinstance(paper, tuple) or len(paper) == 0:
        return False
    top = top_spot(scene, bound)
    named = {}
    for number, node in enumerate(paper):
        # A node that none ahead of it has named is no node of the tree.
        if number > 0 and number not in named:
            return False
        spot = spot_of_branch(scene, named.pop(number)) if number > 0 else top
        if is_tuple(node, 4, 4):
            if not is_turn(scene, spot, node) or not are_free(named, number, len(paper), node[3]):
                return False
            named.update({other: (spot, node[1], node[2], after) for after, other in node[3]})
        elif not is_end(scene, spot, change, node):
            return False
    return True


def spot_of_branch(scene, branch):
    """The spot to which a branch leads."""
    spot, name, key, after = branch
    cost = cost_at(scene.stands, name, key, after)
    return spot_behind(scene, spot, name, key, cost, after)


def is_turn(scene, spot, node):
    """Whether a tuple of four is a turn at what isn't decided yet, its branches all that can be."""
    word, name, key, branches = node
    if not is_same(word, "turn") or not is_word(name) or name not in scene.stands:
        return False
    if not is_tuple_of_words(key) or key not in scene.stands[name] or key in spot.decided.get(name, {}):
        return False
    if not isinstance(branches, tuple) or not all([is_branch(branch) for branch in branches]):
        return False
    can_be = {after: True for cost, after in that_can_be_at(scene, spot, name, key)}
    told = {after: True for after, number in branches}
    return len(branches) == len(told) and told == can_be


def is_branch(thing):
    """Whether it, of any kind, is a pair of what an after may look like and a whole number."""
    if not is_tuple(thing, 2, 2) or not is_whole(thing[1]):
        return False
    return thing[0] is None or is_tuple_of_words(thing[0])


def are_free(named, number, many, branches):
    """Whether all branches of a node name unlike nodes behind it that none has named yet."""
    others = {other: True for after, other in branches}
    if len(others) != len(branches):
        return False
    return all([number < other < many and other not in named for other in others])


def is_end(scene, spot, change, node):
    """Whether it, of any kind, is an end of one of the three kinds."""
    if is_tuple(node, 1, 1):
        return is_same(node[0], "way") and change is not None and decided_change(scene, spot) == change
    if not is_tuple(node, 2, 2):
        return False
    if is_same(node[0], "row"):
        return is_tuple_of_words(node[1]) and is_wrong_row(scene, spot, node[1])
    return is_same(node[0], "rule") and is_whole(node[1]) and is_broken(scene, spot, node[1])


def is_wrong_row(scene, spot, row):
    """Whether it is a row as asked that may not be there, or one that isn't as asked and is sure."""
    level = spot.sights[0].levels[-1].get(row, 0)
    return level == 0 if row in scene.asked else level == SURE


def is_broken(scene, spot, number):
    """Whether there is a rule of this number, and something is sure of its look."""
    if not 0 <= number < len(scene.plans) - 1:
        return False
    return has_sure(spot.sights[number + 1].levels[-1])
