import copy
import unittest

from lookback.fillings import is_filling, row_at
from lookback.schemas import keys_of, rows_with
from samples import EMPTY, FILLING, JUNK, SCHEMA, as_lists, shown, with_junk

ANN, BOB, CID = FILLING[0]


class IsFilling(unittest.TestCase):
    def yes(self, thing):
        self.assertIs(is_filling(SCHEMA, thing), True, shown(thing))

    def no(self, thing):
        self.assertIs(is_filling(SCHEMA, thing), False, shown(thing))

    def test_with_and_without_rows(self):
        self.yes(FILLING)
        self.yes(EMPTY)
        self.yes((FILLING[0], ()))
        self.yes(((), FILLING[1]))
        self.yes(((CID,), ()))

    def test_full_tables(self):
        first = tuple(rows_with(SCHEMA, "folk", key)[0] for key in keys_of(SCHEMA, "folk"))
        last = tuple(rows_with(SCHEMA, "folk", key)[-1] for key in keys_of(SCHEMA, "folk"))
        for rows in (first, last):
            self.yes((rows, keys_of(SCHEMA, "towns")))

    def test_row_of_another_table(self):
        self.no((FILLING[1], FILLING[0]))
        self.no((FILLING[1], ()))
        self.no(((), (ANN,)))
        like = (("a", (("x", ("v",)),), 1), ("b", (("x", ("w",)),), 1))
        self.assertIs(is_filling(like, ((("v",),), (("w",),))), True)
        self.assertIs(is_filling(like, ((("w",),), (("v",),))), False)

    def test_another_value(self):
        self.no(((("dan", "bath", "cook"),), ()))
        self.no(((("ann", "rome", "cook"),), ()))
        self.no(((("ann", "cook", "bath"),), ()))
        self.no(((("ann", "bath", ""),), ()))

    def test_parts_more_and_fewer(self):
        self.no((((),), ()))
        self.no(((ANN[:2],), ()))
        self.no(((ANN + ("cook",),), ()))

    def test_twice_and_one_key(self):
        self.no(((ANN, ANN), ()))
        self.no(((("ann", "bath", "cook"), ("ann", "bath", "none")), ()))
        self.no(((("ann", "bath", "cook"), ("ann", "york", "cook"), CID), ()))
        self.yes(((), (("york", "east"), ("york", "west"))))

    def test_out_of_order(self):
        self.no(((BOB, ANN), ()))
        self.no(((ANN, CID, BOB), ()))
        self.no(((), (("york", "west"), ("york", "east"))))

    def test_tables_more_and_fewer(self):
        self.no(())
        self.no(FILLING[:1])
        self.no(FILLING + ((),))
        self.no(FILLING[0])

    def test_lists(self):
        for filling in (FILLING, EMPTY, ((ANN,), ())):
            for thing in as_lists(filling):
                self.no(thing)

    def test_anything(self):
        for thing in JUNK:
            self.no(thing)

        def is_without_rows(part, junk):
            return part in FILLING and isinstance(junk, tuple) and len(junk) == 0

        for thing in with_junk(FILLING, is_without_rows):
            self.no(thing)

    def test_nothing_is_changed(self):
        thing = [[["cid", "york", "cook"], ["ann", "bath", "cook"]], []]
        before = copy.deepcopy(thing)
        self.no(thing)
        self.no((tuple(thing[0]), ()))
        self.assertEqual(thing, before)


class RowAt(unittest.TestCase):
    def test_there(self):
        for row in FILLING[0]:
            self.assertEqual(row_at(SCHEMA, FILLING, "folk", row[:1]), row)
        for row in FILLING[1]:
            self.assertEqual(row_at(SCHEMA, FILLING, "towns", row), row)

    def test_not_there(self):
        self.assertIsNone(row_at(SCHEMA, FILLING, "towns", ("bath", "east")))
        self.assertIsNone(row_at(SCHEMA, (FILLING[0][:2], ()), "folk", ("cid",)))
        for key in keys_of(SCHEMA, "folk"):
            self.assertIsNone(row_at(SCHEMA, EMPTY, "folk", key))

    def test_of_the_table_that_is_named(self):
        schema = (("a", (("x", ("v",)), ("y", ("p", "q"))), 1), ("b", (("x", ("v",)), ("y", ("p", "q"))), 1))
        filling = ((("v", "p"),), (("v", "q"),))
        self.assertEqual(row_at(schema, filling, "a", ("v",)), ("v", "p"))
        self.assertEqual(row_at(schema, filling, "b", ("v",)), ("v", "q"))
        self.assertIsNone(row_at(schema, ((("v", "p"),), ()), "b", ("v",)))


if __name__ == "__main__":
    unittest.main()
