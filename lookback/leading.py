"""Leading: an ask led back to one least change of the tables, or why there is none."""

from lookback.changes import changed
from lookback.rules import broken
from lookback.scenes import Scene
from lookback.trees import Tree

STRIDE = 64


def lead_back(schema, filling, rules, stays, look, ask):
    """("way", change, paper), ("two", one, other, paper), ("barred", word, change, paper) or ("never", paper)."""
    tree, ahead = settled(Scene(schema, filling, rules, stays, look, ask))
    if not tree.ways:
        return why_none(schema, filling, rules, stays, look, ask, tree)
    if len(tree.ways) == 1:
        return ("way", tree.ways[0], tuple(tree.nodes))
    return ("two", tree.ways[0], tree.ways[1], tuple(ahead.nodes))


def why_none(schema, filling, rules, stays, look, ask, tree):
    """What is told where there is no way of all rules, which this tree shows."""
    many = 0
    way = None
    while many < len(rules):
        fewer, ahead = settled(Scene(schema, filling, rules[:many], stays, look, ask))
        if not fewer.ways:
            return none_told(rules[:many], way, fewer)
        # A least way of the rules up to here is one of all rules that it keeps, too.
        way = fewer.ways[0]
        word = broken(schema, changed(schema, filling, way), rules)
        many = [rule[0] for rule in rules].index(word) + 1
    return none_told(rules, way, tree)


def none_told(rules, way, tree):
    """What is told where there is a way of all of these rules but the last, and none of all."""
    if not rules:
        return ("never", tuple(tree.nodes))
    return ("barred", rules[-1][0], way, tuple(tree.nodes))


def settled(scene):
    """A tree that holds the least ways, or that is a paper of bound None, and the one of the bound ahead of it.

    The bound rises until there are ways. Where there are none that may have no end in sight, so a tree without bound
    is grown beside, in turns, until it shows that there are none, or finds one.
    """
    tree = Tree(scene, 0)
    ahead = None
    whole = None
    while True:
        for step in range(STRIDE):
            if tree.pending and len(tree.ways) < 2:
                tree.grow()
            elif tree.ways or tree.rise is None:
                return tree, ahead
            else:
                ahead = tree
                tree = Tree(scene, tree.bound + tree.rise)
        if whole is None:
            whole = Tree(scene, None)
        grow_until_way(whole)
        if not whole.pending and not whole.ways:
            return whole, None


def grow_until_way(tree):
    """Grow a tree by some nodes, unless it has a way."""
    for step in range(STRIDE):
        if tree.pending and not tree.ways:
            tree.grow()
