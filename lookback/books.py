"""Books: looks with words, by which other looks are made of them."""

from lookback.looks import DEEPEST, PAIRED, columns_by_name, columns_if_look
from lookback.plain import is_tuple, is_word

MOST_LOOKS = 8


def is_book(schema, thing):
    """Whether it, of any kind, is a book of the schema."""
    if not is_tuple(thing, 0, MOST_LOOKS):
        return False
    known = columns_by_name(schema)
    for pair in thing:
        if not is_tuple(pair, 2, 2) or not is_word(pair[0]) or pair[0] in known:
            return False
        columns = columns_if_look(known, pair[1], DEEPEST)
        if columns is None:
            return False
        known[pair[0]] = columns
    return True


def unfolded(book, look):
    """The look of tables alone that is put together of a look of tables and words of the book."""
    known = {}
    for word, part in book:
        known[word] = put_together(known, part)
    return put_together(known, look)


def put_together(known, look):
    """A look with what is known of words in their place."""
    word = look[0]
    if word == "of":
        return known.get(look[1], look)
    if word in PAIRED:
        return (word, put_together(known, look[1]), put_together(known, look[2]))
    return (word, put_together(known, look[1]), look[2])
