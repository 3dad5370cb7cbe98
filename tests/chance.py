"""Schemas, fillings and looks by a chance that is the same each time, and looks told row by row."""

import random

from lookback.changes import between
from lookback.schemas import keys_of, rows_with

PAIRED = ("join", "union", "gap")
WORDS = ("rows", "columns", "called", "join", "union", "gap", "join", "union", "gap", "of")


def records(schema, filling, look):
    """The rows of a look as dicts, each by itself, gone through one by one as the document words it."""
    if look[0] == "of":
        return table_records(schema, filling, look[1])
    others = records(schema, filling, look[2]) if look[0] in PAIRED else []
    return records_of_form(look, records(schema, filling, look[1]), others)


def table_records(schema, filling, name):
    at = [table[0] for table in schema].index(name)
    return [{column[0]: value for column, value in zip(schema[at][1], row)} for row in filling[at]]


def records_of_form(look, ones, others):
    """What the outermost form of a look makes of the records within."""
    word = look[0]
    if word == "rows":
        tests = {"is": lambda row, a, b: row[a] == b, "not": lambda row, a, b: row[a] != b,
                 "like": lambda row, a, b: row[a] == row[b], "unlike": lambda row, a, b: row[a] != row[b]}
        found = [row for row in ones if all(tests[test](row, a, b) for test, a, b in look[2])]
    elif word == "columns":
        found = [{column: row[column] for column in look[2]} for row in ones]
    elif word == "called":
        found = [{dict(look[2]).get(column, column): row[column] for column in row} for row in ones]
    elif word == "join":
        found = [{**other, **one} for one in ones for other in others
                 if all(one[column] == other[column] for column in one if column in other)]
    elif word == "union":
        found = ones + others
    else:
        found = [row for row in ones if row not in others]
    once = []
    for row in found:
        if row not in once:
            once.append(row)
    return once


def counted_records(schema, filling, look):
    """The pairs (record, count) of a look, gone through one by one as the document words it."""
    word = look[0]
    if word == "of":
        return [(row, 1) for row in table_records(schema, filling, look[1])]
    ones = counted_records(schema, filling, look[1])
    if word not in PAIRED:
        return summed([(part, many) for row, many in ones for part in records_of_form(look, [row], [])])
    others = counted_records(schema, filling, look[2])
    if word == "join":
        return [(row, one * other) for left, one in ones for right, other in others
                for row in records_of_form(look, [left], [right])]
    if word == "union":
        return summed(ones + others)
    return [(row, many) for row, many in ones if row not in [other for other, count in others]]


def summed(pairs):
    once = []
    for row, many in pairs:
        at = [other for other, count in once].index(row) if row in [other for other, count in once] else len(once)
        once[at:at + 1] = [(row, many + (once[at][1] if at < len(once) else 0))]
    return once


class Chance:
    """Schemas, fillings and looks by a source of chance that is the same each time."""

    def __init__(self, seed):
        self.random = random.Random(seed)
        pick = self.random
        words = ["a", "b", "c", "d"]
        tables = []
        for name in sorted(pick.sample(["s", "t", "u", "v"], pick.randint(1, 3))):
            many = pick.randint(1, 3)
            columns = tuple((column, tuple(pick.sample(words, pick.randint(1, 3))))
                            for column in pick.sample(["k", "l", "m", "n"], many))
            tables.append((name, columns, pick.randint(1, many)))
        self.schema = tuple(tables)
        self.words = ()

    def filling(self):
        rows = []
        for name, columns, keys in self.schema:
            chosen = [key for key in keys_of(self.schema, name) if self.random.random() < 0.6]
            rows.append(tuple(self.random.choice(rows_with(self.schema, name, key)) for key in chosen))
        return tuple(rows)

    def stays(self, share):
        """Stays, each that there may be with this share of the times."""
        pairs = [(name, column) for name, columns, keys in self.schema
                 for column in [""] + [column for column, values in columns[keys:]]]
        return tuple(sorted(pair for pair in pairs if self.random.random() < share))

    def rules(self, filling, many):
        """At most so many rules that hold in a filling."""
        looks = [self.look(self.random.randint(2, 4))[0] for k in range(many)]
        return tuple((f"r{k}", look) for k, look in enumerate(looks) if not records(self.schema, filling, look))

    def change(self, filling):
        """The change from a filling to another one, which has much of it."""
        other = self.filling()
        parts = between(self.schema, filling, other)
        return tuple(part for part in parts if self.random.random() < 0.5)

    def book(self, many, depth):
        """A book of so many looks; from then on looks are made of its words, too, as of tables."""
        pairs = []
        for word in ("w0", "a", "w1", "z", "w2", "k", "w3", "w4")[:many]:
            look, columns = self.look(self.random.randint(1, depth))
            pairs.append((word, look))
            self.words += ((word, tuple((column, ()) for column in columns), 1),)
        return tuple(pairs)

    def ask(self, rows, others):
        """An ask by which a look has the others' rows instead of its own, or some by chance, perhaps never."""
        pick = self.random
        drops, comes = sorted(set(rows) - set(others)), sorted(set(others) - set(rows))
        if pick.random() < 0.3:
            drops = [row for row in rows if pick.random() < 0.3]
        if pick.random() < 0.3 and comes:
            comes = [row for row in comes if pick.random() < 0.5]
        return tuple(drops), tuple(comes)

    def look(self, depth):
        """A look of at most so deep, with its columns, tracked apart from the program."""
        pick = self.random
        word = pick.choice(WORDS) if depth > 1 else "of"
        if word == "of":
            name, columns, keys = pick.choice(self.schema + self.words)
            return ("of", name), tuple(column for column, values in columns)
        if word in ("union", "gap"):
            return self.paired(word, depth)
        one, columns = self.look(depth - 1)
        if word == "rows":
            return ("rows", one, tuple(self.test(columns) for k in range(pick.randint(1, 2)))), columns
        if word == "columns":
            chosen = tuple(pick.sample(columns, pick.randint(1, len(columns))))
            return ("columns", one, chosen), chosen
        if word == "called":
            return self.called(one, columns)
        other, others = self.look(depth - 1)
        both = columns + tuple(column for column in others if column not in columns)
        return (("join", one, other), both) if len(both) <= 5 else (one, columns)

    def paired(self, word, depth):
        """A union or a gap of two looks, cut to the columns that both have; of one and its cut where none are."""
        one, columns = self.look(max(1, depth - 2))
        other, others = self.look(max(1, depth - 2))
        common = tuple(column for column in columns if column in others)
        if depth < 3:
            return (word, one, one), columns
        if not common:
            return (word, one, ("rows", one, (self.test(columns),))), columns
        return (word, ("columns", one, common), ("columns", other, common)), common

    def called(self, one, columns):
        old = self.random.sample(columns, self.random.randint(1, len(columns)))
        kept = [column for column in columns if column not in old]
        free = [word for word in ("k", "l", "m", "n", "o", "p") if word not in kept]
        names = dict(zip(old, self.random.sample(free, len(old))))
        return ("called", one, tuple(names.items())), tuple(names.get(column, column) for column in columns)

    def test(self, columns):
        pick = self.random
        if pick.random() < 0.5:
            return (pick.choice(("is", "not")), pick.choice(columns), pick.choice(("a", "b", "c", "d")))
        return (pick.choice(("like", "unlike")), pick.choice(columns), pick.choice(columns))


def depth_of(look):
    if look[0] == "of":
        return 1
    parts = look[1:] if look[0] in PAIRED else look[1:2]
    return 1 + max(depth_of(part) for part in parts)
