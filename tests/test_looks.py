import copy
import unittest

from lookback.looks import columns_of, is_look
from samples import JUNK, NO_WORDS, SCHEMA, as_lists, shown, with_junk

OF = ("of", "folk")
TOWN = ("of", "towns")
SEVEN = (
    OF,
    ("rows", OF, (("is", "town", "york"), ("not", "job", "cook"), ("like", "town", "job"), ("unlike", "name", "job"))),
    ("columns", OF, ("job", "name")),
    ("called", OF, (("name", "who"), ("job", "work"))),
    ("join", OF, TOWN),
    ("union", OF, ("rows", OF, (("is", "name", "ann"),))),
    ("gap", OF, ("rows", OF, (("is", "name", "ann"),))),
)


def rows_deep(depth):
    look = OF
    for step in range(depth - 1):
        look = ("rows", look, (("is", "name", "ann"),))
    return look


def paired_deep(word, depth, left):
    look = OF
    for step in range(depth - 1):
        look = (word, look, OF) if left else (word, OF, look)
    return look


class Checks(unittest.TestCase):
    def yes(self, look, columns):
        self.assertIs(is_look(SCHEMA, look), True, shown(look))
        self.assertEqual(columns_of(SCHEMA, look), columns)
        self.assertIsInstance(columns_of(SCHEMA, look), tuple)

    def no(self, thing):
        self.assertIs(is_look(SCHEMA, thing), False, shown(thing))


class Columns(Checks):
    def test_of(self):
        self.yes(OF, ("name", "town", "job"))
        self.yes(TOWN, ("town", "land"))

    def test_rows(self):
        self.yes(SEVEN[1], ("name", "town", "job"))

    def test_columns(self):
        self.yes(("columns", OF, ("job",)), ("job",))
        self.yes(("columns", OF, ("job", "name")), ("job", "name"))
        self.yes(("columns", OF, ("town", "job", "name")), ("town", "job", "name"))
        self.yes(("columns", ("columns", OF, ("job", "name")), ("name", "job")), ("name", "job"))

    def test_called(self):
        self.yes(SEVEN[3], ("who", "town", "work"))
        self.yes(("called", OF, (("job", "work"), ("name", "who"))), ("who", "town", "work"))
        self.yes(("called", OF, (("name", "name"),)), ("name", "town", "job"))

    def test_called_exchanged(self):
        self.yes(("called", OF, (("name", "job"), ("job", "name"))), ("job", "town", "name"))
        self.yes(("called", OF, (("name", "town"), ("town", "job"), ("job", "name"))), ("town", "job", "name"))
        self.yes(("called", OF, (("town", "job"), ("job", "x"))), ("name", "job", "x"))

    def test_called_one_after_another(self):
        first = ("called", OF, (("name", "who"),))
        self.yes(("called", first, (("who", "name"),)), ("name", "town", "job"))
        self.yes(("called", first, (("job", "name"), ("who", "job"))), ("job", "town", "name"))
        self.no(("called", first, (("name", "x"),)))

    def test_join(self):
        self.yes(("join", OF, TOWN), ("name", "town", "job", "land"))
        self.yes(("join", TOWN, OF), ("town", "land", "name", "job"))
        self.yes(("join", OF, OF), ("name", "town", "job"))
        self.yes(("join", OF, ("columns", OF, ("job", "name"))), ("name", "town", "job"))
        apart = ("called", TOWN, (("town", "place"),))
        self.yes(("join", OF, apart), ("name", "town", "job", "place", "land"))
        self.yes(("join", apart, OF), ("place", "land", "name", "town", "job"))

    def test_union_and_gap(self):
        for word in ("union", "gap"):
            self.yes((word, OF, OF), ("name", "town", "job"))
            self.yes((word, ("columns", OF, ("town",)), ("columns", TOWN, ("town",))), ("town",))
            self.yes((word, TOWN, ("called", ("columns", OF, ("name", "job")), (("name", "town"), ("job", "land")))),
                     ("town", "land"))

    def test_deeper_than_eight(self):
        self.assertEqual(columns_of(SCHEMA, rows_deep(64)), ("name", "town", "job"))
        self.assertEqual(columns_of(SCHEMA, paired_deep("join", 64, True)), ("name", "town", "job"))
        self.assertEqual(columns_of(SCHEMA, paired_deep("join", 64, False)), ("name", "town", "job"))

    def test_more_columns_than_a_table_can_have(self):
        look = OF
        for step in range(3):
            here = columns_of(SCHEMA, look)
            look = ("join", look, ("called", look, tuple((name, f"{step}{name}") for name in here)))
        self.assertIs(is_look(SCHEMA, look), True)
        self.assertEqual(len(columns_of(SCHEMA, look)), 24)
        self.assertEqual(columns_of(SCHEMA, look)[-1], "210job")


class IsLook(Checks):
    def test_depth(self):
        self.assertIs(is_look(SCHEMA, rows_deep(8)), True)
        self.assertIs(is_look(SCHEMA, rows_deep(9)), False)
        for word in ("join", "union", "gap"):
            for left in (True, False):
                self.assertIs(is_look(SCHEMA, paired_deep(word, 8, left)), True)
                self.assertIs(is_look(SCHEMA, paired_deep(word, 9, left)), False)
                self.assertIs(is_look(SCHEMA, paired_deep(word, 60, left)), False)
        for wrap in (lambda look: ("columns", look, ("job", "name", "town")),
                     lambda look: ("called", look, (("job", "name"), ("name", "job")))):
            look = OF
            for depth in range(1, 12):
                self.assertIs(is_look(SCHEMA, look), depth <= 8)
                look = wrap(look)

    def test_words(self):
        for word in ("", "Of", "off", "row", "column", "call", "joins", "is", "folk", "unlike"):
            self.no((word, "folk"))
            self.no((word, OF))
            self.no((word, OF, OF))
            self.no((word, OF, ("name",)))
            self.no((word, OF, (("is", "name", "ann"),)))
            self.no((word, OF, (("name", "who"),)))

    def test_a_table_that_is_not_there(self):
        for name in ("cats", "name", "folks", "of") + NO_WORDS:
            self.no(("of", name))
            self.no(("join", OF, ("of", name)))
            self.no(("join", ("of", name), OF))
            self.no(("rows", ("of", name), (("is", "name", "ann"),)))
        self.no(("of", OF))

    def test_tests_many(self):
        test = ("is", "name", "ann")
        self.no(("rows", OF, ()))
        for many in range(1, 5):
            self.yes(("rows", OF, (test,) * many), ("name", "town", "job"))
        self.no(("rows", OF, (test,) * 5))
        self.no(("rows", OF, test))

    def test_test_columns(self):
        for word in ("is", "not"):
            self.yes(("rows", OF, ((word, "name", "zebra"),)), ("name", "town", "job"))
            self.no(("rows", OF, ((word, "land", "west"),)))
            self.no(("rows", OF, ((word, "ann", "name"),)))
            for value in NO_WORDS:
                self.no(("rows", OF, ((word, "name", value),)))
        for word in ("like", "unlike"):
            self.yes(("rows", OF, ((word, "name", "job"),)), ("name", "town", "job"))
            self.yes(("rows", OF, ((word, "name", "name"),)), ("name", "town", "job"))
            self.no(("rows", OF, ((word, "name", "land"),)))
            self.no(("rows", OF, ((word, "land", "name"),)))
            self.no(("rows", OF, ((word, "name", "ann"),)))

    def test_test_columns_are_those_of_the_look_within(self):
        within = ("called", OF, (("name", "who"),))
        self.yes(("rows", within, (("is", "who", "ann"),)), ("who", "town", "job"))
        self.no(("rows", within, (("is", "name", "ann"),)))
        self.no(("rows", ("columns", OF, ("job",)), (("is", "name", "ann"),)))

    def test_tests_of_no_form(self):
        for test in (("has", "name", "ann"), ("has", "name", "job"), ("", "name", "ann"),
                     ("Is", "name", "ann"), ("is", "name"), ("is",), (), ("is", "name", "ann", "bob"),
                     ("like", "name", "job", "town"), "is", ("is", ("name", "ann"))):
            self.no(("rows", OF, (test,)))
            self.no(("rows", OF, (("is", "name", "ann"), test)))

    def test_columns(self):
        self.no(("columns", OF, ()))
        self.no(("columns", OF, ("name", "name")))
        self.no(("columns", OF, ("name", "job", "name")))
        self.no(("columns", OF, ("name", "town", "job", "name")))
        self.no(("columns", OF, ("land",)))
        self.no(("columns", OF, ("name", "land")))
        self.no(("columns", OF, "name"))
        self.no(("columns", ("columns", OF, ("job",)), ("name",)))

    def test_called(self):
        self.no(("called", OF, ()))
        self.no(("called", OF, ("name", "who")))
        self.no(("called", OF, (("land", "who"),)))
        self.no(("called", OF, (("name", "who"), ("who", "x"))))
        self.no(("called", OF, (("name", "who"), ("name", "whose"))))
        self.no(("called", OF, (("name", "who"), ("name", "who"))))
        self.no(("called", OF, (("name", "who", "x"),)))
        self.no(("called", OF, (("name",),)))
        self.no(("called", OF, (("name", "who"), ())))
        for word in NO_WORDS:
            self.no(("called", OF, (("name", word),)))
            self.no(("called", OF, ((word, "name"),)))

    def test_columns_alike_behind_called(self):
        self.no(("called", OF, (("name", "job"),)))
        self.no(("called", OF, (("name", "x"), ("job", "x"))))
        self.no(("called", OF, (("name", "town"), ("job", "name"))))

    def test_union_and_gap_of_unlike_columns(self):
        for word in ("union", "gap"):
            self.no((word, OF, TOWN))
            self.no((word, TOWN, OF))
            self.no((word, TOWN, ("columns", TOWN, ("land", "town"))))
            self.no((word, TOWN, ("columns", TOWN, ("town",))))
            self.no((word, ("columns", TOWN, ("town",)), TOWN))
            self.no((word, TOWN, ("called", TOWN, (("land", "x"),))))

    def test_parts_more_and_fewer(self):
        for look in SEVEN:
            self.no(look + (OF,))
            self.no(look + ((),))
            self.no(look[:-1])
            self.no(look[:1])
            self.no(look[1:])
            self.no((look,))
        self.no(())

    def test_lists(self):
        for look in SEVEN:
            self.assertIs(is_look(SCHEMA, look), True)
            for thing in as_lists(look):
                self.no(thing)
        deep = ("columns", rows_deep(7), ("name",))
        for thing in as_lists(deep):
            self.no(thing)

    def test_anything(self):
        for thing in JUNK:
            self.no(thing)
        for look in SEVEN:
            for thing in with_junk(look):
                self.no(thing)

    def test_nothing_is_changed(self):
        thing = ["rows", ["of", "folk"], [["is", "name", "ann"]]]
        before = copy.deepcopy(thing)
        self.no(thing)
        self.no(tuple(thing))
        self.no(("rows", OF, thing[2]))
        self.assertEqual(thing, before)


if __name__ == "__main__":
    unittest.main()
