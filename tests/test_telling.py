import random
import unittest

from lookback.fillings import is_filling
from lookback.looks import columns_of, is_look
from lookback.schemas import keys_of, rows_with
from lookback.telling import told
from samples import EMPTY, FILLING, SCHEMA

OF = ("of", "folk")
TOWN = ("of", "towns")
ANN, BOB, CID = FILLING[0]
IS_ANN = ("rows", OF, (("is", "name", "ann"),))
NOT_ANN = ("rows", OF, (("not", "name", "ann"),))


class Forms(unittest.TestCase):
    def tells(self, look, rows):
        self.assertIs(is_look(SCHEMA, look), True)
        self.assertEqual(told(SCHEMA, FILLING, look), rows)
        self.assertEqual(told(SCHEMA, FILLING, look), rows)
        self.assertEqual(told(SCHEMA, EMPTY, look), ())

    def test_of(self):
        self.tells(OF, FILLING[0])
        self.tells(TOWN, FILLING[1])

    def test_rows_is_and_not(self):
        self.tells(IS_ANN, (ANN,))
        self.tells(NOT_ANN, (BOB, CID))
        self.tells(("rows", OF, (("is", "job", "cook"),)), (ANN, CID))
        self.tells(("rows", OF, (("is", "job", "cook"), ("is", "town", "york"))), (CID,))
        self.tells(("rows", OF, (("is", "job", "cook"), ("not", "job", "cook"))), ())
        self.tells(("rows", OF, (("is", "job", "zebra"),)), ())
        self.tells(("rows", OF, (("not", "job", "zebra"),)), FILLING[0])

    def test_rows_meet_all_four_tests(self):
        first = (("not", "name", "ann"), ("not", "name", "bob"), ("is", "job", "cook"))
        self.tells(("rows", OF, first + (("is", "town", "york"),)), (CID,))
        self.tells(("rows", OF, first + (("is", "town", "bath"),)), ())

    def test_rows_like_and_unlike(self):
        two = ("join", ("columns", OF, ("name", "town")),
               ("called", ("columns", OF, ("name", "town")), (("name", "with"), ("town", "place"))))
        alike = tuple((one[0], one[1], other[0], other[1])
                      for one in FILLING[0] for other in FILLING[0] if one[1] == other[1])
        unlike = tuple((one[0], one[1], other[0], other[1])
                       for one in FILLING[0] for other in FILLING[0] if one[1] != other[1])
        self.assertEqual((len(alike), len(unlike)), (5, 4))
        self.tells(("rows", two, (("like", "town", "place"),)), alike)
        self.tells(("rows", two, (("unlike", "town", "place"),)), unlike)
        self.tells(("rows", OF, (("like", "job", "job"),)), FILLING[0])
        self.tells(("rows", OF, (("unlike", "job", "job"),)), ())

    def test_columns(self):
        self.tells(("columns", OF, ("town",)), (("bath",), ("york",)))
        self.tells(("columns", OF, ("job", "name")), (("cook", "ann"), ("cook", "cid"), ("none", "bob")))
        self.tells(("columns", OF, ("town", "job")), (("bath", "cook"), ("york", "cook"), ("york", "none")))
        self.tells(("columns", OF, ("job", "town", "name")),
                   (("cook", "bath", "ann"), ("cook", "york", "cid"), ("none", "york", "bob")))

    def test_called(self):
        self.tells(("called", OF, (("name", "who"),)), FILLING[0])
        swapped = ("called", OF, (("town", "job"), ("job", "town")))
        self.tells(swapped, FILLING[0])
        self.tells(("columns", swapped, ("town",)), (("cook",), ("none",)))
        self.tells(("rows", swapped, (("is", "town", "cook"),)), (ANN, CID))
        self.tells(("join", swapped, TOWN), ())

    def test_join_some_columns_in_common(self):
        self.tells(("join", OF, TOWN), (
            ("ann", "bath", "cook", "west"),
            ("bob", "york", "none", "east"), ("bob", "york", "none", "west"),
            ("cid", "york", "cook", "east"), ("cid", "york", "cook", "west")))
        self.tells(("join", TOWN, ("columns", OF, ("name", "town"))), (
            ("bath", "west", "ann"),
            ("york", "east", "bob"), ("york", "east", "cid"),
            ("york", "west", "bob"), ("york", "west", "cid")))

    def test_join_all_columns_in_common(self):
        self.tells(("join", OF, OF), FILLING[0])
        self.tells(("join", OF, IS_ANN), (ANN,))
        self.tells(("join", IS_ANN, NOT_ANN), ())
        self.tells(("join", OF, ("columns", NOT_ANN, ("job", "town", "name"))), (BOB, CID))

    def test_join_no_columns_in_common(self):
        names = ("columns", OF, ("name",))
        lands = ("columns", TOWN, ("land",))
        self.tells(("join", names, lands), tuple((row[0], land) for row in FILLING[0] for land in ("east", "west")))
        self.tells(("join", names, ("rows", lands, (("is", "land", "south"),))), ())

    def test_union(self):
        self.tells(("union", NOT_ANN, IS_ANN), FILLING[0])
        self.tells(("union", OF, NOT_ANN), FILLING[0])
        self.tells(("union", ("columns", OF, ("job",)), ("called", ("columns", TOWN, ("land",)), (("land", "job"),))),
                   (("cook",), ("east",), ("none",), ("west",)))

    def test_gap(self):
        self.tells(("gap", OF, IS_ANN), (BOB, CID))
        self.tells(("gap", IS_ANN, OF), ())
        self.tells(("gap", OF, OF), ())
        self.tells(("gap", ("columns", OF, ("town",)), ("columns", IS_ANN, ("town",))), (("york",),))
        self.tells(("gap", OF, ("gap", OF, IS_ANN)), (ANN,))

    def test_gap_of_what_is_not_there(self):
        full = (FILLING[0], ())
        look = ("gap", ("columns", OF, ("town",)), ("columns", TOWN, ("town",)))
        self.assertEqual(told(SCHEMA, FILLING, look), ())
        self.assertEqual(told(SCHEMA, full, look), (("bath",), ("york",)))

    def test_eight_deep(self):
        exchange = (("name", "town"), ("town", "name"))
        west = ("rows", ("join", OF, TOWN), (("is", "land", "west"),))
        turned = ("columns", ("called", ("columns", west, ("town", "name")), exchange), ("town", "name"))
        self.tells(turned, (("ann", "bath"), ("bob", "york"), ("cid", "york")))
        less = ("gap", turned, ("called", ("columns", IS_ANN, ("name", "town")), exchange))
        self.tells(less, (("bob", "york"), ("cid", "york")))
        more = ("called", ("columns", TOWN, ("land", "town")), (("land", "town"), ("town", "name")))
        look = ("union", less, more)
        self.assertEqual(depth_of(look), 8)
        self.tells(look, (("bob", "york"), ("cid", "york"), ("east", "york"), ("west", "bath"), ("west", "york")))

    def test_deeper_than_eight(self):
        look = OF
        for step in range(63):
            look = ("gap", OF, look)
        self.assertEqual(told(SCHEMA, FILLING, look), ())
        look = IS_ANN
        for step in range(62):
            look = ("gap", OF, look)
        self.assertEqual(told(SCHEMA, FILLING, look), (ANN,))

    def test_many_rows(self):
        values = tuple("abcd")
        schema = (("t", tuple((f"c{k}", values) for k in range(4)), 4),)
        filling = (keys_of(schema, "t"),)
        look = ("join", ("columns", ("of", "t"), ("c0", "c1", "c2")),
                ("called", ("columns", ("of", "t"), ("c0", "c1")), (("c0", "d0"), ("c1", "d1"))))
        rows = told(schema, filling, look)
        self.assertEqual(len(rows), 1024)
        self.assertEqual(rows, tuple(sorted(set(rows))))
        self.assertEqual(len(told(schema, filling, ("union", ("of", "t"), ("of", "t")))), 256)


WORDS = ("rows", "columns", "called", "join", "union", "gap", "join", "union", "gap", "of")


def records(schema, filling, look):
    """The rows of a look as dicts, each by itself, gone through one by one as the document words it."""
    word = look[0]
    if word == "of":
        at = [table[0] for table in schema].index(look[1])
        found = [{column[0]: value for column, value in zip(schema[at][1], row)} for row in filling[at]]
    else:
        ones = records(schema, filling, look[1])
        others = records(schema, filling, look[2]) if word in ("join", "union", "gap") else []
        if word == "rows":
            tests = {"is": lambda row, a, b: row[a] == b, "not": lambda row, a, b: row[a] != b,
                     "like": lambda row, a, b: row[a] == row[b], "unlike": lambda row, a, b: row[a] != row[b]}
            found = [row for row in ones if all(tests[test](row, a, b) for test, a, b in look[2])]
        elif word == "columns":
            found = [{column: row[column] for column in look[2]} for row in ones]
        elif word == "called":
            found = [{dict(look[2]).get(column, column): row[column] for column in row} for row in ones]
        elif word == "join":
            found = [{**other, **one} for one in ones for other in others
                     if all(one[column] == other[column] for column in one if column in other)]
        elif word == "union":
            found = ones + others
        else:
            found = [row for row in ones if row not in others]
    once = []
    for row in found:
        if row not in once:
            once.append(row)
    return once


class Chance:
    """Schemas, fillings and looks by a source of chance that is the same each time."""

    def __init__(self, seed):
        self.random = random.Random(seed)
        pick = self.random
        words = ["a", "b", "c", "d"]
        tables = []
        for name in sorted(pick.sample(["s", "t", "u", "v"], pick.randint(1, 3))):
            many = pick.randint(1, 3)
            columns = tuple((column, tuple(pick.sample(words, pick.randint(1, 3))))
                            for column in pick.sample(["k", "l", "m", "n"], many))
            tables.append((name, columns, pick.randint(1, many)))
        self.schema = tuple(tables)

    def filling(self):
        rows = []
        for name, columns, keys in self.schema:
            chosen = [key for key in keys_of(self.schema, name) if self.random.random() < 0.6]
            rows.append(tuple(self.random.choice(rows_with(self.schema, name, key)) for key in chosen))
        return tuple(rows)

    def look(self, depth):
        """A look of at most so deep, with its columns, tracked apart from the program."""
        pick = self.random
        word = pick.choice(WORDS) if depth > 1 else "of"
        if word == "of":
            name, columns, keys = pick.choice(self.schema)
            return ("of", name), tuple(column for column, values in columns)
        if word in ("union", "gap"):
            return self.paired(word, depth)
        one, columns = self.look(depth - 1)
        if word == "rows":
            return ("rows", one, tuple(self.test(columns) for k in range(pick.randint(1, 2)))), columns
        if word == "columns":
            chosen = tuple(pick.sample(columns, pick.randint(1, len(columns))))
            return ("columns", one, chosen), chosen
        if word == "called":
            return self.called(one, columns)
        other, others = self.look(depth - 1)
        both = columns + tuple(column for column in others if column not in columns)
        return (("join", one, other), both) if len(both) <= 5 else (one, columns)

    def paired(self, word, depth):
        """A union or a gap of two looks, cut to the columns that both have; of one and its cut where none are."""
        one, columns = self.look(max(1, depth - 2))
        other, others = self.look(max(1, depth - 2))
        common = tuple(column for column in columns if column in others)
        if depth < 3:
            return (word, one, one), columns
        if not common:
            return (word, one, ("rows", one, (self.test(columns),))), columns
        return (word, ("columns", one, common), ("columns", other, common)), common

    def called(self, one, columns):
        old = self.random.sample(columns, self.random.randint(1, len(columns)))
        kept = [column for column in columns if column not in old]
        free = [word for word in ("k", "l", "m", "n", "o", "p") if word not in kept]
        names = dict(zip(old, self.random.sample(free, len(old))))
        return ("called", one, tuple(names.items())), tuple(names.get(column, column) for column in columns)

    def test(self, columns):
        pick = self.random
        if pick.random() < 0.5:
            return (pick.choice(("is", "not")), pick.choice(columns), pick.choice(("a", "b", "c", "d")))
        return (pick.choice(("like", "unlike")), pick.choice(columns), pick.choice(columns))


def depth_of(look):
    if look[0] == "of":
        return 1
    parts = look[1:] if look[0] in ("join", "union", "gap") else look[1:2]
    return 1 + max(depth_of(part) for part in parts)


class ManyLooks(unittest.TestCase):
    def test_against_rows_gone_through_one_by_one(self):
        with_rows = 0
        for seed in range(1500):
            chance = Chance(seed)
            filling = chance.filling()
            depth = seed % 7 + 1
            look, columns = chance.look(depth)
            self.assertIs(is_filling(chance.schema, filling), True)
            self.assertIs(is_look(chance.schema, look), True, look)
            self.assertLessEqual(depth_of(look), depth)
            self.assertEqual(columns_of(chance.schema, look), columns)
            wanted = sorted(tuple(row[column] for column in columns)
                            for row in records(chance.schema, filling, look))
            rows = told(chance.schema, filling, look)
            self.assertEqual(rows, tuple(wanted), look)
            self.assertTrue(all(isinstance(row, tuple) and all(isinstance(cell, str) for cell in row) for row in rows))
            with_rows += len(rows) > 0
        self.assertGreater(with_rows, 500)


if __name__ == "__main__":
    unittest.main()
