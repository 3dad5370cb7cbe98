import itertools
import unittest

from lookback.errors import LookError, NoSources
from lookback.sources import sources
from lookback.telling import told
from chance import Chance
from samples import EMPTY, FILLING, SCHEMA

OF, TOWN = ("of", "folk"), ("of", "towns")
ANN, BOB, CID = FILLING[0]
IS_ANN = ("rows", OF, (("is", "name", "ann"),))


def folk(*rows):
    return tuple(("folk", row) for row in rows)


def towns(*rows):
    return tuple(("towns", row) for row in rows)


def has_gap(look):
    return look[0] == "gap" or any(isinstance(part, tuple) and len(part) > 1 and has_gap(part) for part in look[1:])


def sources_gone_through(schema, filling, look, row):
    """All lots of rows of a filling, the smaller first, that make the row and hold none that does."""
    pairs = [(table[0], each) for table, rows in zip(schema, filling) for each in rows]
    found = []
    for many in range(len(pairs) + 1):
        for lot in itertools.combinations(pairs, many):
            alone = tuple(tuple(each for name, each in lot if name == table[0]) for table in schema)
            if row in told(schema, alone, look) and not any(set(other) <= set(lot) for other in found):
                found.append(lot)
    return tuple(sorted(tuple(sorted(lot)) for lot in found))


class Sources(unittest.TestCase):
    def tells(self, look, row, *wanted):
        self.assertIn(row, told(SCHEMA, FILLING, look))
        for step in range(2):
            self.assertEqual(sources(SCHEMA, FILLING, look, row), tuple(sorted(wanted)))

    def test_of_rows_and_called(self):
        self.tells(OF, ANN, folk(ANN))
        self.tells(TOWN, ("york", "east"), towns(("york", "east")))
        self.tells(IS_ANN, ANN, folk(ANN))
        self.tells(("called", OF, (("town", "job"), ("job", "town"))), BOB, folk(BOB))

    def test_columns(self):
        self.tells(("columns", OF, ("town",)), ("york",), folk(BOB), folk(CID))
        self.tells(("columns", OF, ("town",)), ("bath",), folk(ANN))
        self.tells(("columns", OF, ("job", "town")), ("cook", "york"), folk(CID))

    def test_join_of_several_tables(self):
        self.tells(("join", OF, TOWN), ANN + ("west",), folk(ANN) + towns(("bath", "west")))
        self.tells(("columns", ("join", OF, TOWN), ("name",)), ("bob",),
                   folk(BOB) + towns(("york", "east")), folk(BOB) + towns(("york", "west")))
        self.tells(("columns", ("join", OF, TOWN), ("land",)), ("west",),
                   folk(ANN) + towns(("bath", "west")), folk(BOB) + towns(("york", "west")),
                   folk(CID) + towns(("york", "west")))
        self.tells(("join", ("columns", OF, ("name",)), ("columns", TOWN, ("land",))), ("ann", "west"),
                   folk(ANN) + towns(("bath", "west")), folk(ANN) + towns(("york", "west")))

    def test_pairs_rise(self):
        told_first = sources(SCHEMA, FILLING, ("join", TOWN, OF), ("bath", "west", "ann", "cook"))
        self.assertEqual(told_first, (folk(ANN) + towns(("bath", "west")),))

    def test_union(self):
        self.tells(("union", OF, IS_ANN), ANN, folk(ANN))
        self.tells(("union", ("columns", OF, ("town",)), ("columns", TOWN, ("town",))), ("bath",),
                   folk(ANN), towns(("bath", "west")))
        self.tells(("union", ("columns", ("join", OF, TOWN), ("name",)), ("columns", OF, ("name",))), ("ann",),
                   folk(ANN))

    def test_none_holds_another(self):
        jobs, names = ("columns", OF, ("job",)), ("columns", OF, ("name",))
        self.tells(("join", OF, OF), ANN, folk(ANN))
        self.tells(("join", jobs, jobs), ("cook",), folk(ANN), folk(CID))
        # That ann is there tells that a cook is, too, whoever else cooks.
        self.tells(("join", jobs, names), ("cook", "ann"), folk(ANN))
        self.tells(("join", jobs, names), ("cook", "bob"), folk(ANN, BOB), folk(BOB, CID))
        self.tells(("join", ("columns", OF, ("town",)), jobs), ("york", "cook"), folk(CID), folk(ANN, BOB))

    def test_words_that_are_no_row(self):
        for look in (OF, IS_ANN, ("columns", OF, ("town",)), ("join", OF, TOWN), ("union", OF, OF)):
            for row in ((), ("zebra",), ("ann", "york", "cook"), ANN + ("east",), ANN + ("west", "west"), ANN[:2],
                        ("york", "none", "cook", "west")):
                self.assertEqual(sources(SCHEMA, FILLING, look, row), ())
        self.assertEqual(sources(SCHEMA, EMPTY, OF, ANN), ())
        self.assertEqual(sources(SCHEMA, FILLING, IS_ANN, BOB), ())

    def test_gap(self):
        gap = ("gap", OF, IS_ANN)
        for look in (gap, ("rows", gap, (("is", "name", "bob"),)), ("columns", gap, ("name",)), ("union", OF, gap),
                     ("union", gap, OF), ("join", TOWN, gap), ("called", gap, (("name", "who"),)), ("gap", OF, gap),
                     ("columns", ("columns", ("union", ("join", OF, gap), OF), ("name", "job")), ("job",))):
            for row in (BOB, ANN, (), ("zebra",), ("bob",), ("york", "east")):
                with self.assertRaises(NoSources) as caught:
                    sources(SCHEMA, FILLING, look, row)
                self.assertIsInstance(caught.exception, LookError)
                with self.assertRaises(NoSources):
                    sources(SCHEMA, EMPTY, look, row)

    def test_many_against_all_lots(self):
        several = 0
        for seed in range(1500):
            chance = Chance(seed)
            filling = chance.filling()
            look, columns = chance.look(seed % 5 + 2)
            if has_gap(look) or sum(len(rows) for rows in filling) > 8:
                continue
            for row in told(chance.schema, filling, look)[:3]:
                wanted = sources_gone_through(chance.schema, filling, look, row)
                self.assertEqual(sources(chance.schema, filling, look, row), wanted)
                several += len(wanted) > 1
        self.assertGreater(several, 20)

    def test_thousands_of_lots(self):
        values = tuple("abcd")
        schema = tuple((name, tuple((f"{name}{k}", values) for k in range(3)), 3) for name in ("s", "t"))
        filling = tuple(tuple(itertools.product(sorted(values), repeat=3)) for name in ("s", "t"))
        look = ("join", ("columns", ("of", "s"), ("s0",)), ("columns", ("of", "t"), ("t0",)))
        self.assertEqual(len(sources(schema, filling, look, ("a", "b"))), 256)
        wide = ("join", ("columns", ("rows", ("of", "s"), (("not", "s1", "a"),)), ("s0",)),
                ("columns", ("join", ("of", "t"), ("columns", ("of", "t"), ("t1", "t2"))), ("t1",)))
        self.assertEqual(len(sources(schema, filling, wide, ("a", "b"))), 12 * 16)


if __name__ == "__main__":
    unittest.main()
