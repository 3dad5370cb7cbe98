import copy
import itertools
import unittest

from lookback.schemas import is_schema, key_of, keys_of, rows_with
from samples import FOLK, JUNK, NO_WORDS, SCHEMA, TOWNS, as_lists, shown, with_junk

ONE = (("t", (("c", ("v",)),), 1),)


def table(name="t", columns=(("c", ("v", "w")), ("d", ("v",))), keys=1):
    return (name, columns, keys)


def columns(many):
    return tuple((f"c{k}", ("v", "w")) for k in range(many))


class IsSchema(unittest.TestCase):
    def yes(self, thing):
        self.assertIs(is_schema(thing), True, shown(thing))

    def no(self, thing):
        self.assertIs(is_schema(thing), False, shown(thing))

    def test_one_table_one_column_one_value(self):
        self.yes(ONE)

    def test_one_to_four_tables(self):
        for many in range(1, 5):
            self.yes(tuple(table(f"t{k}") for k in range(many)))

    def test_no_table_and_five(self):
        self.no(())
        self.no(tuple(table(f"t{k}") for k in range(5)))

    def test_names_rise_and_are_unlike(self):
        self.yes((table("a"), table("ab"), table("b")))
        self.no((table("b"), table("a")))
        self.no((table("a"), table("c"), table("b")))
        self.no((table("a"), table("a")))
        self.no((table("a", columns(1)), table("a", columns(2))))
        self.yes((FOLK, TOWNS))
        self.no((TOWNS, FOLK))

    def test_one_to_four_columns_and_values(self):
        for many in range(1, 5):
            self.yes((table("t", columns(many), many),))
            self.yes((table("t", (("c", tuple(f"v{k}" for k in range(many))),)),))

    def test_no_column_or_value_and_five(self):
        self.no((table("t", (), 0),))
        self.no((table("t", ()),))
        self.no((table("t", columns(5)),))
        self.no((table("t", (("c", ()),)),))
        self.no((table("t", (("c", ("a", "b", "c", "d", "e")),)),))

    def test_columns_and_values_need_not_rise_but_are_unlike(self):
        self.yes((table("t", (("z", ("b", "a")), ("a", ("b", "c", "a")))),))
        self.no((table("t", (("c", ("v",)), ("c", ("w",)))),))
        self.no((table("t", (("c", ("v",)), ("d", ("w",)), ("c", ("x",)))),))
        self.no((table("t", (("c", ("v", "v")),)),))
        self.no((table("t", (("c", ("v", "w", "v")),)),))

    def test_names_may_be_shared_between_kinds_of_things(self):
        self.yes((("a", (("a", ("a",)),), 1), ("b", (("a", ("a", "b")),), 1)))

    def test_no_words(self):
        for word in NO_WORDS + (b"a", None, 1, True, ("a",), ["a"], {"a": 1}):
            self.no((table(word),))
            self.no((table("t", ((word, ("v",)),)),))
            self.no((table("t", (("c", (word,)),)),))
            self.no((table("t", (("c", ("v", word)),)),))

    def test_long_words(self):
        self.yes((("abcdefgh", (("12345678", ("a2345678",)),), 1),))
        self.no((table("abcdefghi"),))

    def test_keys(self):
        for many in range(1, 5):
            for keys in range(1, many + 1):
                self.yes((table("t", columns(many), keys),))
            self.no((table("t", columns(many), 0),))
            self.no((table("t", columns(many), -1),))
            self.no((table("t", columns(many), many + 1),))
        for keys in (True, False, None, "1", b"1", (1,), [1], {1: 1}):
            self.no((table("t", columns(2), keys),))

    def test_lists(self):
        for schema in (ONE, SCHEMA):
            for thing in as_lists(schema):
                self.no(thing)

    def test_parts_more_and_fewer(self):
        self.no((("t", columns(1)),))
        self.no((("t", columns(1), 1, 1),))
        self.no((("t",),))
        self.no(((),))
        self.no((table("t", (("c",),)),))
        self.no((table("t", (("c", ("v",), ("w",)),)),))
        self.no((table("t", ((),)),))
        self.no(ONE[0])

    def test_anything(self):
        for thing in JUNK:
            self.no(thing)

        def is_key(part, junk):
            return isinstance(part, int) and isinstance(junk, int) and str(junk) == "1"

        for thing in with_junk(SCHEMA, is_key):
            self.no(thing)

    def test_true_in_the_place_of_keys(self):
        self.no((FOLK[:2] + (True,), TOWNS))
        self.no((FOLK, TOWNS[:2] + (True,)))

    def test_nothing_is_changed_and_the_same_is_told(self):
        thing = [["t", [["c", ["v"]]], 1]]
        before = copy.deepcopy(thing)
        self.no(thing)
        self.no((thing[0],))
        self.assertEqual(thing, before)
        self.yes(SCHEMA)
        self.yes(SCHEMA)


class KeysAndRows(unittest.TestCase):
    def test_key_of(self):
        self.assertEqual(key_of(SCHEMA, "folk", ("ann", "bath", "cook")), ("ann",))
        self.assertEqual(key_of(SCHEMA, "towns", ("bath", "west")), ("bath", "west"))
        three = (("t", (("a", ("x",)), ("b", ("y",)), ("c", ("z",))), 2),)
        self.assertEqual(key_of(three, "t", ("x", "y", "z")), ("x", "y"))

    def test_keys_of(self):
        self.assertEqual(keys_of(SCHEMA, "folk"), (("ann",), ("bob",), ("cid",)))
        self.assertEqual(
            keys_of(SCHEMA, "towns"),
            (("bath", "east"), ("bath", "west"), ("york", "east"), ("york", "west")))
        self.assertEqual(keys_of(ONE, "t"), (("v",),))

    def test_rows_with(self):
        self.assertEqual(
            rows_with(SCHEMA, "folk", ("bob",)),
            (("bob", "bath", "cook"), ("bob", "bath", "none"), ("bob", "york", "cook"), ("bob", "york", "none")))
        self.assertEqual(rows_with(SCHEMA, "towns", ("york", "east")), (("york", "east"),))
        self.assertEqual(rows_with(ONE, "t", ("v",)), (("v",),))

    def test_rows_with_a_key_that_may_not_be(self):
        self.assertEqual(rows_with(SCHEMA, "folk", ("york",)), ())
        self.assertEqual(rows_with(SCHEMA, "towns", ("east", "york")), ())

    def test_all_sizes_against_all_rows(self):
        values = ("d", "b", "c", "a")
        for many in range(1, 5):
            for keys in range(1, many + 1):
                for size in range(1, 5):
                    schema = (("s", (("c", ("v",)),), 1),
                              ("t", tuple((f"c{k}", values[:size]) for k in range(many)), keys))
                    rows = sorted(itertools.product(values[:size], repeat=many))
                    self.assertEqual(keys_of(schema, "t"), tuple(sorted({row[:keys] for row in rows})))
                    for key in keys_of(schema, "t"):
                        wanted = tuple(row for row in rows if row[:keys] == key)
                        self.assertEqual(rows_with(schema, "t", key), wanted)
                        for row in wanted:
                            self.assertEqual(key_of(schema, "t", row), key)

    def test_kinds(self):
        for thing in (keys_of(SCHEMA, "folk"), rows_with(SCHEMA, "folk", ("ann",)), rows_with(SCHEMA, "folk", ("x",))):
            self.assertIsInstance(thing, tuple)
            for row in thing:
                self.assertIsInstance(row, tuple)
        self.assertIsInstance(key_of(SCHEMA, "folk", ("ann", "bath", "cook")), tuple)
        self.assertEqual(keys_of(SCHEMA, "folk"), keys_of(SCHEMA, "folk"))


if __name__ == "__main__":
    unittest.main()
