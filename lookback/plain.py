"""What the checks of things of any kind share: words, whole numbers, tuples."""

SIGNS = "abcdefghijklmnopqrstuvwxyz0123456789"
LONGEST = 8


def is_word(thing):
    """Whether it is a text of one to eight small letters and figures."""
    if not isinstance(thing, str) or not 1 <= len(thing) <= LONGEST:
        return False
    return all([sign in SIGNS for sign in thing])


def is_whole(thing):
    """Whether it is a whole number; Python counts truths among these, the document doesn't."""
    return isinstance(thing, int) and not isinstance(thing, bool)


def is_tuple(thing, least, most):
    """Whether it is a tuple of at least and at most so many things."""
    return isinstance(thing, tuple) and least <= len(thing) <= most


def is_tuple_of_words(thing):
    """Whether it, of any kind, is a tuple of words, however many, alike or not."""
    return isinstance(thing, tuple) and all([is_word(word) for word in thing])


def is_same(thing, plain):
    """Whether it, of any kind, is this text, whole number or tuple of such; Python would take True for 1."""
    if isinstance(plain, tuple):
        many = len(plain)
        return is_tuple(thing, many, many) and all([is_same(part, other) for part, other in zip(thing, plain)])
    if isinstance(plain, str):
        return isinstance(thing, str) and thing == plain
    return is_whole(thing) and thing == plain


def are_words(thing, least, most):
    """Whether it is a tuple of so many unlike words."""
    return is_tuple(thing, least, most) and is_tuple_of_words(thing) and are_unlike(thing)


def are_unlike(things):
    """Whether nothing stands twice among texts or tuples of texts."""
    return len(set(things)) == len(things)


def is_rising(things):
    """Whether each of these texts or tuples of texts is more than the one ahead."""
    return all([one < other for one, other in zip(things, things[1:])])


def found_again(seen, look):
    """What was found of a look, of pairs (look, found) of those seen, or None.

    A look put together of a book holds the same ones within one another, so often that going through each of them
    anew would have no end. Python takes what is the very same thing for alike without going through it.
    """
    for other, found in seen:
        if other == look:
            return found
    return None


def product(choices):
    """All tuples with one of each choice; they rise where each choice does."""
    found = [()]
    for choice in choices:
        found = [start + (value,) for start in found for value in choice]
    return found
