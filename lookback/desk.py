"""A desk: a sheet kept, told and changed line by line."""

from lookback.books import unfolded
from lookback.changes import cost_of
from lookback.counting import counts
from lookback.errors import Barred, Never, NoAsk, NoChange, NoLine, NoSources, Two
from lookback.fillings import is_row, row_at
from lookback.keeping import Keeper
from lookback.looks import is_look
from lookback.plain import is_tuple_of_words
from lookback.reading import look_of_words, read_sheet
from lookback.rules import broken
from lookback.schemas import key_of, table_if_named
from lookback.showing import show_sheet
from lookback.sources import sources
from lookback.stands import WHOLE
from lookback.telling import told


def say_tell(desk, parts):
    """The rows of a table or a word of the book."""
    look_named(desk, parts[0])
    return listed([text_of_row(row) for row in desk.keeper.rows(parts[0])])


def say_count(desk, parts):
    """The rows of a table or a word of the book, with their counts."""
    pairs = counts(desk.schema, desk.keeper.filling(), look_named(desk, parts[0]))
    return listed([f"{text_of_row(row)}*{count}" for row, count in pairs])


def say_why(desk, parts):
    """How many sources a row has."""
    look = look_named(desk, parts[0])
    row = row_of_text(parts[1])
    try:
        return str(len(sources(desk.schema, desk.keeper.filling(), look, row)))
    except NoSources:
        return "gap"


def say_ask(desk, parts):
    """What comes of it that rows of a word of the book are to go and come, where some things stay."""
    if not parts or parts[0] not in [word for word, look in desk.book]:
        raise NoLine()
    things = [thing_of_text(desk, text) for text in parts[1:]]
    # What stands twice stands twice in these, too, so that they don't rise and are no ask.
    drops, comes, stays = [tuple(sorted([thing for kind, thing in things if kind == sign])) for sign in "-+="]
    return answer_of_ask(desk, parts[0], stays, (drops, comes))


def answer_of_ask(desk, word, stays, ask):
    """How it is written what a keeper says to an ask."""
    try:
        change = desk.keeper.ask(word, stays, ask)
    except NoAsk:
        return "no ask"
    except Two as two:
        return f"two {cost_of(desk.schema, two.one)}"
    except Barred as barred:
        return f"barred {barred.rule}"
    except Never:
        return "never"
    return f"done {cost_of(desk.schema, change)}"


def say_row(desk, parts):
    """A row comes, or is put in the place of that with its key."""
    name, text = parts
    row = row_of_text(text)
    if not is_row(table_named(desk, name)[1], row):
        raise NoLine()
    return put(desk, name, key_of(desk.schema, name, row), row)


def say_drop(desk, parts):
    """The row with a key goes."""
    name, text = parts
    key = row_of_text(text)
    table = table_named(desk, name)
    if not is_row(table[1][:table[2]], key):
        raise NoLine()
    return put(desk, name, key, None)


def put(desk, name, key, after):
    """Put a row, or None, in the place of what has this key."""
    before = row_at(desk.schema, desk.keeper.filling(), name, key)
    if after == before:
        return "none"
    try:
        desk.keeper.change(((name, key, before, after),))
    except Barred as barred:
        return f"barred {barred.rule}"
    return "done"


def say_back(desk, parts):
    """The last change is undone."""
    try:
        desk.keeper.back()
    except NoChange:
        return "none"
    return "done"


def say_breaks(desk, parts):
    """How many rows a look of the schema has."""
    look = look_of_words(parts)
    if not is_look(desk.schema, look):
        raise NoLine()
    return str(len(told(desk.schema, desk.keeper.filling(), look)))


def say_sheet(desk, parts):
    """The text of the sheet, on one line."""
    return show_sheet(desk.schema, desk.keeper.filling(), desk.rules, desk.book).replace("\n", ";")


def look_named(desk, word):
    """The look of tables that a table's name or a word of the book stands for."""
    if word not in desk.looks:
        raise NoLine()
    return desk.looks[word]


def table_named(desk, name):
    """The table of this name."""
    table = table_if_named(desk.schema, name)
    if table is None:
        raise NoLine()
    return table


def thing_of_text(desk, text):
    """The pair of the sign that a thing of an ask begins with, and the row or the stay behind it."""
    sign = text[:1]
    if sign == "=":
        return sign, stay_of_text(desk, text[1:])
    if sign not in ("-", "+"):
        raise NoLine()
    return sign, row_of_text(text[1:])


def stay_of_text(desk, text):
    """The pair of a table's name and a column of it, or of a name alone and what stands for the whole table."""
    name, dot, column = text.partition(".")
    names = [named for named, values in table_named(desk, name)[1]]
    if dot == "":
        return name, WHOLE
    if column not in names:
        raise NoLine()
    return name, column


def row_of_text(text):
    """The row or key that is written with a comma between its values."""
    row = tuple(text.split(","))
    if not is_tuple_of_words(row):
        raise NoLine()
    return row


def text_of_row(row):
    """How a row is written."""
    return ",".join(row)


def listed(texts):
    """These texts with blanks between."""
    return " ".join(texts) if texts else "-"


DEEDS = {
    "tell": say_tell, "count": say_count, "why": say_why, "ask": say_ask, "row": say_row, "drop": say_drop,
    "back": say_back, "breaks": say_breaks, "sheet": say_sheet,
}
# How many words stand behind the first one, where that is always the same.
PARTS = {"tell": 1, "count": 1, "why": 2, "row": 2, "drop": 2, "back": 0, "sheet": 0}


class Desk:
    """A keeper of what a sheet's text tells."""

    def __init__(self, text):
        schema, filling, rules, book = read_sheet(text)
        rule = broken(schema, filling, rules)
        if rule is not None:
            raise Barred(rule, None)
        names = [table[0] for table in schema] + [word for word, look in book]
        self.schema = schema
        self.rules = rules
        self.book = book
        self.looks = {word: unfolded(book, ("of", word)) for word in names}
        self.keeper = Keeper(schema, filling, rules, book)

    def say(self, line):
        """What is answered to a line; NoLine of all that has none of the forms."""
        if not isinstance(line, str):
            raise NoLine()
        word, *parts = line.split(" ")
        if word not in DEEDS or len(parts) != PARTS.get(word, len(parts)):
            raise NoLine()
        deed = DEEDS[word]
        return deed(self, parts)
