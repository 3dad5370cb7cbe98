"""Rules: looks that have to be without rows."""

from lookback.looks import is_look
from lookback.plain import are_unlike, is_tuple, is_word
from lookback.telling import told

MOST_RULES = 6


def are_rules(schema, thing):
    """Whether it, of any kind, is rules of the schema."""
    if not is_tuple(thing, 0, MOST_RULES) or not all([is_rule(schema, pair) for pair in thing]):
        return False
    return are_unlike([pair[0] for pair in thing])


def is_rule(schema, thing):
    """Whether it, of any kind, is a pair of a word and a look."""
    return is_tuple(thing, 2, 2) and is_word(thing[0]) and is_look(schema, thing[1])


def broken(schema, filling, rules):
    """The word of the first rule that doesn't hold, or None."""
    for word, look in rules:
        if told(schema, filling, look):
            return word
    return None
