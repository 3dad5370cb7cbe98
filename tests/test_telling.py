import unittest

from lookback.fillings import is_filling
from lookback.looks import columns_of, is_look
from lookback.schemas import keys_of
from lookback.telling import told
from chance import Chance, depth_of, records
from samples import EMPTY, FILLING, SCHEMA

OF = ("of", "folk")
TOWN = ("of", "towns")
ANN, BOB, CID = FILLING[0]
IS_ANN = ("rows", OF, (("is", "name", "ann"),))
NOT_ANN = ("rows", OF, (("not", "name", "ann"),))


class Forms(unittest.TestCase):
    def tells(self, look, rows):
        self.assertIs(is_look(SCHEMA, look), True)
        self.assertEqual(told(SCHEMA, FILLING, look), rows)
        self.assertEqual(told(SCHEMA, FILLING, look), rows)
        self.assertEqual(told(SCHEMA, EMPTY, look), ())

    def test_of(self):
        self.tells(OF, FILLING[0])
        self.tells(TOWN, FILLING[1])

    def test_rows_is_and_not(self):
        self.tells(IS_ANN, (ANN,))
        self.tells(NOT_ANN, (BOB, CID))
        self.tells(("rows", OF, (("is", "job", "cook"),)), (ANN, CID))
        self.tells(("rows", OF, (("is", "job", "cook"), ("is", "town", "york"))), (CID,))
        self.tells(("rows", OF, (("is", "job", "cook"), ("not", "job", "cook"))), ())
        self.tells(("rows", OF, (("is", "job", "zebra"),)), ())
        self.tells(("rows", OF, (("not", "job", "zebra"),)), FILLING[0])

    def test_rows_meet_all_four_tests(self):
        first = (("not", "name", "ann"), ("not", "name", "bob"), ("is", "job", "cook"))
        self.tells(("rows", OF, first + (("is", "town", "york"),)), (CID,))
        self.tells(("rows", OF, first + (("is", "town", "bath"),)), ())

    def test_rows_like_and_unlike(self):
        two = ("join", ("columns", OF, ("name", "town")),
               ("called", ("columns", OF, ("name", "town")), (("name", "with"), ("town", "place"))))
        alike = tuple((one[0], one[1], other[0], other[1])
                      for one in FILLING[0] for other in FILLING[0] if one[1] == other[1])
        unlike = tuple((one[0], one[1], other[0], other[1])
                       for one in FILLING[0] for other in FILLING[0] if one[1] != other[1])
        self.assertEqual((len(alike), len(unlike)), (5, 4))
        self.tells(("rows", two, (("like", "town", "place"),)), alike)
        self.tells(("rows", two, (("unlike", "town", "place"),)), unlike)
        self.tells(("rows", OF, (("like", "job", "job"),)), FILLING[0])
        self.tells(("rows", OF, (("unlike", "job", "job"),)), ())

    def test_columns(self):
        self.tells(("columns", OF, ("town",)), (("bath",), ("york",)))
        self.tells(("columns", OF, ("job", "name")), (("cook", "ann"), ("cook", "cid"), ("none", "bob")))
        self.tells(("columns", OF, ("town", "job")), (("bath", "cook"), ("york", "cook"), ("york", "none")))
        self.tells(("columns", OF, ("job", "town", "name")),
                   (("cook", "bath", "ann"), ("cook", "york", "cid"), ("none", "york", "bob")))

    def test_called(self):
        self.tells(("called", OF, (("name", "who"),)), FILLING[0])
        swapped = ("called", OF, (("town", "job"), ("job", "town")))
        self.tells(swapped, FILLING[0])
        self.tells(("columns", swapped, ("town",)), (("cook",), ("none",)))
        self.tells(("rows", swapped, (("is", "town", "cook"),)), (ANN, CID))
        self.tells(("join", swapped, TOWN), ())

    def test_join_some_columns_in_common(self):
        self.tells(("join", OF, TOWN), (
            ("ann", "bath", "cook", "west"),
            ("bob", "york", "none", "east"), ("bob", "york", "none", "west"),
            ("cid", "york", "cook", "east"), ("cid", "york", "cook", "west")))
        self.tells(("join", TOWN, ("columns", OF, ("name", "town"))), (
            ("bath", "west", "ann"),
            ("york", "east", "bob"), ("york", "east", "cid"),
            ("york", "west", "bob"), ("york", "west", "cid")))

    def test_join_all_columns_in_common(self):
        self.tells(("join", OF, OF), FILLING[0])
        self.tells(("join", OF, IS_ANN), (ANN,))
        self.tells(("join", IS_ANN, NOT_ANN), ())
        self.tells(("join", OF, ("columns", NOT_ANN, ("job", "town", "name"))), (BOB, CID))

    def test_join_no_columns_in_common(self):
        names = ("columns", OF, ("name",))
        lands = ("columns", TOWN, ("land",))
        self.tells(("join", names, lands), tuple((row[0], land) for row in FILLING[0] for land in ("east", "west")))
        self.tells(("join", names, ("rows", lands, (("is", "land", "south"),))), ())

    def test_union(self):
        self.tells(("union", NOT_ANN, IS_ANN), FILLING[0])
        self.tells(("union", OF, NOT_ANN), FILLING[0])
        self.tells(("union", ("columns", OF, ("job",)), ("called", ("columns", TOWN, ("land",)), (("land", "job"),))),
                   (("cook",), ("east",), ("none",), ("west",)))

    def test_gap(self):
        self.tells(("gap", OF, IS_ANN), (BOB, CID))
        self.tells(("gap", IS_ANN, OF), ())
        self.tells(("gap", OF, OF), ())
        self.tells(("gap", ("columns", OF, ("town",)), ("columns", IS_ANN, ("town",))), (("york",),))
        self.tells(("gap", OF, ("gap", OF, IS_ANN)), (ANN,))

    def test_gap_of_what_is_not_there(self):
        full = (FILLING[0], ())
        look = ("gap", ("columns", OF, ("town",)), ("columns", TOWN, ("town",)))
        self.assertEqual(told(SCHEMA, FILLING, look), ())
        self.assertEqual(told(SCHEMA, full, look), (("bath",), ("york",)))

    def test_eight_deep(self):
        exchange = (("name", "town"), ("town", "name"))
        west = ("rows", ("join", OF, TOWN), (("is", "land", "west"),))
        turned = ("columns", ("called", ("columns", west, ("town", "name")), exchange), ("town", "name"))
        self.tells(turned, (("ann", "bath"), ("bob", "york"), ("cid", "york")))
        less = ("gap", turned, ("called", ("columns", IS_ANN, ("name", "town")), exchange))
        self.tells(less, (("bob", "york"), ("cid", "york")))
        more = ("called", ("columns", TOWN, ("land", "town")), (("land", "town"), ("town", "name")))
        look = ("union", less, more)
        self.assertEqual(depth_of(look), 8)
        self.tells(look, (("bob", "york"), ("cid", "york"), ("east", "york"), ("west", "bath"), ("west", "york")))

    def test_deeper_than_eight(self):
        look = OF
        for step in range(63):
            look = ("gap", OF, look)
        self.assertEqual(told(SCHEMA, FILLING, look), ())
        look = IS_ANN
        for step in range(62):
            look = ("gap", OF, look)
        self.assertEqual(told(SCHEMA, FILLING, look), (ANN,))

    def test_many_rows(self):
        values = tuple("abcd")
        schema = (("t", tuple((f"c{k}", values) for k in range(4)), 4),)
        filling = (keys_of(schema, "t"),)
        look = ("join", ("columns", ("of", "t"), ("c0", "c1", "c2")),
                ("called", ("columns", ("of", "t"), ("c0", "c1")), (("c0", "d0"), ("c1", "d1"))))
        rows = told(schema, filling, look)
        self.assertEqual(len(rows), 1024)
        self.assertEqual(rows, tuple(sorted(set(rows))))
        self.assertEqual(len(told(schema, filling, ("union", ("of", "t"), ("of", "t")))), 256)


class ManyLooks(unittest.TestCase):
    def test_against_rows_gone_through_one_by_one(self):
        with_rows = 0
        for seed in range(1500):
            chance = Chance(seed)
            filling = chance.filling()
            depth = seed % 7 + 1
            look, columns = chance.look(depth)
            self.assertIs(is_filling(chance.schema, filling), True)
            self.assertIs(is_look(chance.schema, look), True, look)
            self.assertLessEqual(depth_of(look), depth)
            self.assertEqual(columns_of(chance.schema, look), columns)
            wanted = sorted(tuple(row[column] for column in columns)
                            for row in records(chance.schema, filling, look))
            rows = told(chance.schema, filling, look)
            self.assertEqual(rows, tuple(wanted), look)
            self.assertTrue(all(isinstance(row, tuple) and all(isinstance(cell, str) for cell in row) for row in rows))
            with_rows += len(rows) > 0
        self.assertGreater(with_rows, 500)


if __name__ == "__main__":
    unittest.main()
