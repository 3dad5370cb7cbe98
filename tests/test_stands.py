import itertools
import unittest

from lookback.changes import cost_of
from lookback.fillings import row_at
from lookback.schemas import keys_of, rows_with
from lookback.stands import afters, are_stays
from chance import Chance
from samples import EMPTY, FILLING, JUNK, NO_WORDS, SCHEMA, as_lists, shown, with_junk

ANN, BOB, CID = FILLING[0]
ALL = (("folk", ""), ("folk", "job"), ("folk", "town"), ("towns", ""))


class AreStays(unittest.TestCase):
    def yes(self, thing):
        self.assertIs(are_stays(SCHEMA, thing), True, shown(thing))

    def no(self, thing):
        self.assertIs(are_stays(SCHEMA, thing), False, shown(thing))

    def test_none_to_all(self):
        for many in range(len(ALL) + 1):
            for stays in itertools.combinations(ALL, many):
                self.yes(stays)

    def test_turned_about(self):
        self.no((("job", "folk"),))
        self.no((("", "folk"),))
        self.no((("", ""),))

    def test_not_rising_or_twice(self):
        for stays in itertools.permutations(ALL):
            if stays != ALL:
                self.no(stays)
        for pair in ALL:
            self.no((pair, pair))
        self.no((("folk", "job"), ("folk", "")))

    def test_tables_and_columns_that_are_not_there(self):
        for name in ("cats", "job", "folks") + NO_WORDS:
            self.no(((name, ""),))
            self.no(((name, "job"),))
        for column in ("age", "folk", "york", "land", "jobs", "name"):
            self.no((("folk", column),))
        for column in ("town", "land", "job"):
            self.no((("towns", column),))
        for column in NO_WORDS:
            self.assertIs(are_stays(SCHEMA, (("folk", column),)), column == "")

    def test_parts_more_and_fewer(self):
        for pair in ALL:
            self.no(pair)
            self.no((pair[:1],))
            self.no((pair + ("",),))
            self.no(((),))
            self.no(((pair,),))

    def test_lists(self):
        for thing in as_lists(ALL):
            self.no(thing)
        self.no([])

    def test_anything(self):
        for thing in JUNK:
            if not (isinstance(thing, tuple) and len(thing) == 0):
                self.no(thing)

        def is_right(part, junk):
            if part == ALL:
                return isinstance(junk, tuple) and len(junk) == 0
            return part == "" and isinstance(junk, str) and junk == ""

        for thing in with_junk(ALL, is_right):
            self.no(thing)


class Afters(unittest.TestCase):
    def test_without_stays_of_a_row(self):
        self.assertEqual(afters(SCHEMA, FILLING, (), "folk", ("ann",)), (
            (0, ("ann", "bath", "cook")),
            (1, ("ann", "bath", "none")), (1, ("ann", "york", "cook")),
            (2, ("ann", "york", "none")),
            (3, None)))
        self.assertEqual(afters(SCHEMA, FILLING, (), "towns", ("bath", "west")), ((0, ("bath", "west")), (2, None)))

    def test_without_stays_of_no_row(self):
        self.assertEqual(afters(SCHEMA, EMPTY, (), "folk", ("ann",)), (
            (0, None),
            (3, ("ann", "york", "none")),
            (4, ("ann", "bath", "none")), (4, ("ann", "york", "cook")),
            (5, ("ann", "bath", "cook"))))
        self.assertEqual(afters(SCHEMA, FILLING, (), "towns", ("bath", "east")), ((0, None), (2, ("bath", "east"))))

    def test_rows_rise_among_like_costs(self):
        schema = (("t", (("k", ("a",)), ("v", ("y", "x", "z")), ("w", ("p", "o", "q"))), 1),)
        self.assertEqual(afters(schema, ((("a", "y", "p"),),), (), "t", ("a",)), (
            (0, ("a", "y", "p")),
            (1, ("a", "x", "p")), (1, ("a", "y", "o")), (1, ("a", "y", "q")), (1, ("a", "z", "p")),
            (2, ("a", "x", "o")), (2, ("a", "x", "q")), (2, ("a", "z", "o")), (2, ("a", "z", "q")),
            (3, None)))

    def test_one_column_held(self):
        stays = (("folk", "town"),)
        self.assertEqual(afters(SCHEMA, FILLING, stays, "folk", ("ann",)), (
            (0, ("ann", "bath", "cook")), (1, ("ann", "bath", "none")), (3, None)))
        self.assertEqual(afters(SCHEMA, EMPTY, stays, "folk", ("ann",)), afters(SCHEMA, EMPTY, (), "folk", ("ann",)))
        self.assertEqual(afters(SCHEMA, FILLING, stays, "towns", ("bath", "west")),
                         ((0, ("bath", "west")), (2, None)))

    def test_all_columns_held(self):
        stays = (("folk", "job"), ("folk", "town"))
        self.assertEqual(afters(SCHEMA, FILLING, stays, "folk", ("ann",)), ((0, ANN), (3, None)))
        self.assertEqual(len(afters(SCHEMA, EMPTY, stays, "folk", ("ann",))), 5)

    def test_whole_table_held(self):
        for stays in ((("folk", ""),), (("folk", ""), ("folk", "job")), ALL):
            self.assertEqual(afters(SCHEMA, FILLING, stays, "folk", ("ann",)), ((0, ANN),))
            self.assertEqual(afters(SCHEMA, EMPTY, stays, "folk", ("ann",)), ((0, None),))
        self.assertEqual(afters(SCHEMA, FILLING, (("towns", ""),), "folk", ("ann",)),
                         afters(SCHEMA, FILLING, (), "folk", ("ann",)))

    def test_a_column_of_another_table_of_this_name(self):
        schema = (("a", (("k", ("p",)), ("v", ("x", "y"))), 1), ("b", (("k", ("p",)), ("v", ("x", "y"))), 1))
        filling = ((("p", "x"),), (("p", "x"),))
        self.assertEqual(len(afters(schema, filling, (("a", "v"),), "a", ("p",))), 2)
        self.assertEqual(len(afters(schema, filling, (("a", "v"),), "b", ("p",))), 3)

    def test_many(self):
        for seed in range(150):
            chance = Chance(seed)
            schema, filling = chance.schema, chance.filling()
            stays = chance.stays(0.3)
            self.assertIs(are_stays(schema, stays), True)
            for name, columns, keys in schema:
                for key in keys_of(schema, name):
                    self.check(schema, filling, stays, (name, columns), key)

    def check(self, schema, filling, stays, table, key):
        name, columns = table
        before = row_at(schema, filling, name, key)
        wanted = []
        for after in (None,) + rows_with(schema, name, key):
            let = (name, "") not in stays
            if before is not None and after is not None:
                for (column, values), old, new in zip(columns, before, after):
                    let = let and ((name, column) not in stays or old == new)
            if let or after == before:
                cost = 0 if after == before else cost_of(schema, ((name, key, before, after),))
                wanted.append((cost, after is not None, after or (), after))
        told = afters(schema, filling, stays, name, key)
        self.assertEqual(told, tuple((cost, after) for cost, there, row, after in sorted(wanted)))
        self.assertIsInstance(told, tuple)


if __name__ == "__main__":
    unittest.main()
