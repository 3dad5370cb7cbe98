"""Ways and papers as the document words them, gone through one by one, without what the program keeps or skips."""

import functools
import itertools

from lookback.changes import between, cost_of
from lookback.halves import may, sure
from lookback.rules import broken
from lookback.schemas import keys_of, rows_with
from lookback.stands import afters
from lookback.telling import told


# The same is asked of these for each ask again.
told_again = functools.lru_cache(maxsize=20000)(told)
afters_again = functools.lru_cache(maxsize=20000)(afters)


@functools.lru_cache(maxsize=50)
def all_fillings(schema):
    """Each filling of a small schema."""
    tables = []
    for name, columns, keys in schema:
        choices = [(None,) + rows_with(schema, name, key) for key in keys_of(schema, name)]
        tables.append([tuple(row for row in rows if row is not None) for rows in itertools.product(*choices)])
    return list(itertools.product(*tables))


def how_many_fillings(schema):
    many = 1
    for name, columns, keys in schema:
        for key in keys_of(schema, name):
            many *= 1 + len(rows_with(schema, name, key))
    return many


def rows_asked(schema, filling, look, ask):
    return tuple(sorted(set(told(schema, filling, look)) - set(ask[0]) | set(ask[1])))


def all_ways(schema, filling, rules, stays, look, ask):
    """The list of pairs (cost, change) of all ways, the least first."""
    wanted = rows_asked(schema, filling, look, ask)
    found = []
    for other in all_fillings(schema):
        if told_again(schema, other, look) == wanted and broken(schema, other, rules) is None:
            change = between(schema, filling, other)
            if all(after in [pair[1] for pair in afters_again(schema, filling, stays, name, key)]
                   for name, key, before, after in change):
                found.append((cost_of(schema, change), change))
    return sorted(found, key=lambda pair: pair[0])


def is_right_paper(schema, filling, rules, stays, look, ask, bound, change, paper):
    """Whether a tuple of nodes that have right forms is a paper of this bound, ends "way" being of this change."""
    names = [number for node in paper if node[0] == "turn" for after, number in node[3]]
    if sorted(names) != list(range(1, len(paper))):
        return False
    if any(number <= at for at, node in enumerate(paper) if node[0] == "turn" for after, number in node[3]):
        return False
    args = (schema, filling, stays)
    wanted = rows_asked(schema, filling, look, ask)
    costs = {place: dict((after, cost) for cost, after in afters_again(*args, *place))
             for place in [(name, key) for name, columns, keys in schema for key in keys_of(schema, name)]}
    todo = [(0, ())]
    while todo:
        number, decided = todo.pop()
        node = paper[number]
        left = None if bound is None else bound - sum(costs[name, key][after] for name, key, after in decided)
        if node[0] == "turn":
            place = node[1:3]
            if place not in costs or place in [part[:2] for part in decided]:
                return False
            can_be = [after for after, cost in costs[place].items() if left is None or cost <= left]
            branches = [after for after, other in node[3]]
            if len(branches) != len(can_be) or any(after not in branches for after in can_be):
                return False
            for after, other in node[3]:
                todo.append((other, tuple(sorted(decided + (place + (after,),), key=lambda part: part[:2]))))
        elif node[0] == "way":
            done = tuple((name, key, afters_again(*args, name, key)[0][1], after) for name, key, after in decided)
            if change is None or tuple(part for part in done if part[2] != part[3]) != change:
                return False
        elif node[0] == "row":
            row = node[1]
            if row in wanted and row in may(*args, decided, bound, look):
                return False
            if row not in wanted and row not in sure(*args, decided, bound, look):
                return False
        else:
            if not 0 <= node[1] < len(rules) or not sure(*args, decided, bound, rules[node[1]][1]):
                return False
    return True
