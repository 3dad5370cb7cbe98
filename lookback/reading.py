"""Reading: looks and sheets read from their texts."""

from lookback.books import is_book
from lookback.errors import NoText
from lookback.fillings import is_filling
from lookback.looks import MOST_TESTS, PAIRED
from lookback.plain import is_tuple_of_words, is_word
from lookback.rules import are_rules
from lookback.schemas import MOST, is_schema
from lookback.showing import show_sheet

DEEPEST_TEXT = 16
FIGURES = "0123456789"
TESTS = ("is", "not", "like", "unlike")
# How many words each test, column and pair has.
WIDTHS = {"rows": 3, "columns": 1, "called": 2}
ORDER = ("table", "row", "rule", "look")


def read_look(text):
    """The look that a text, of any kind, writes; else NoText(0)."""
    look = look_of_words(text.split(" ")) if isinstance(text, str) else None
    if look is None:
        raise NoText(0)
    return look


def look_of_words(words):
    """The look that these texts, all of them, write; else None."""
    if not all([is_word(word) for word in words]):
        return None
    look, behind = look_at(words, 0, DEEPEST_TEXT)
    return look if behind == len(words) else None


def look_at(words, at, depth):
    """The look that begins at a place, at most so deep, and the place behind it; else a pair of None."""
    if depth == 0 or at + 1 >= len(words):
        return None, None
    word = words[at]
    if word == "of":
        return ("of", words[at + 1]), at + 2
    if word in PAIRED:
        one, middle = look_at(words, at + 1, depth - 1)
        other, behind = (None, None) if one is None else look_at(words, middle, depth - 1)
        return (None, None) if other is None else ((word, one, other), behind)
    part, start = part_at(words, at)
    one, behind = (None, None) if part is None else look_at(words, start, depth - 1)
    return (None, None) if one is None else ((word, one, part), behind)


def part_at(words, at):
    """The tests, columns or pairs of a look that begins at a place, and the place behind them; else a pair of None."""
    word = words[at]
    many = number_of_text(words[at + 1])
    if word not in WIDTHS or many == 0:
        return None, None
    width = WIDTHS[word]
    behind = at + 2 + many * width
    cells = tuple(words[at + 2:behind])
    if word == "columns":
        return cells, behind
    part = tuple([cells[start:start + width] for start in range(0, len(cells), width)])
    if word == "rows" and (many > MOST_TESTS or not all([test[0] in TESTS for test in part])):
        return None, None
    return part, behind


def number_of_text(text):
    """The number from 1 to 99 that a word writes without a 0 ahead; 0 of any other."""
    if len(text) > 2 or text[0] == "0" or not all([sign in FIGURES for sign in text]):
        return 0
    return int(text)


def read_sheet(text):
    """The sheet (schema, filling, rules, book) that a text, of any kind, writes; else NoText of a row."""
    if not isinstance(text, str):
        raise NoText(0)
    lines = text.split("\n")
    found = things_of_lines(lines)
    schema = tuple(found["table"])
    filling = tuple([tuple([row for name, row in found["row"] if name == table[0]]) for table in schema])
    rules = tuple(found["rule"])
    book = tuple(found["look"])
    if not is_sheet(schema, filling, rules, book) or show_sheet(schema, filling, rules, book) != text:
        raise NoText(len(lines))
    return schema, filling, rules, book


def is_sheet(schema, filling, rules, book):
    """Whether these are a schema, a filling, rules and a book of it."""
    if not is_schema(schema) or not is_filling(schema, filling):
        return False
    return are_rules(schema, rules) and is_book(schema, book)


def things_of_lines(lines):
    """The dict from the words of ORDER to what is written by them; NoText at the first row that is wrong."""
    found = {word: [] for word in ORDER}
    last = 0
    for number, line in enumerate(lines):
        word, *parts = line.split(" ")
        thing = thing_of_line(word, parts) if word in ORDER[last:] else None
        if thing is None:
            raise NoText(number)
        last = ORDER.index(word)
        found[word].append(thing)
    return found


def thing_of_line(word, parts):
    """The table, or the pair of a word and a row or a look, that a row of a sheet writes; None of another form."""
    if not parts or not is_word(parts[0]):
        return None
    if word == "table":
        return table_of_parts(parts)
    if word == "row":
        row = words_among(parts[1:])
        return None if row is None else (parts[0], row)
    look = look_of_words(parts[1:])
    return None if look is None else (parts[0], look)


def table_of_parts(parts):
    """The table that its name, a figure and its columns write; else None."""
    if not 3 <= len(parts) <= 2 + MOST or len(parts[1]) != 1 or parts[1] not in FIGURES:
        return None
    columns = [column_of_text(part) for part in parts[2:]]
    return None if None in columns else (parts[0], tuple(columns), int(parts[1]))


def column_of_text(text):
    """The pair of a column and its values; else None."""
    column, colon, rest = text.partition(":")
    values = words_among(rest.split(","))
    return None if values is None or not is_word(column) else (column, values)


def words_among(texts):
    """The tuple of these texts, if they are one to four words; else None."""
    words = tuple(texts)
    return words if 1 <= len(words) <= MOST and is_tuple_of_words(words) else None
