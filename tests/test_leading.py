import unittest
from unittest import mock

from lookback import leading
from lookback.asks import is_ask, is_way
from lookback.changes import changed, cost_of
from lookback.leading import lead_back
from lookback.looks import is_look
from lookback.papers import shows_none, shows_two, shows_way
from lookback.rules import broken
from lookback.schemas import keys_of
from lookback.telling import told
from chance import Chance
from oracle import all_fillings, all_ways, how_many_fillings, is_right_paper, rows_asked
from samples import FILLING, SCHEMA

FEW = (("a", (("k", ("p", "q")), ("v", ("x", "y"))), 1), ("b", (("v", ("x", "y")), ("w", ("x", "z"))), 1))
A, B = ("of", "a"), ("of", "b")
VALUES = ("columns", A, ("v",))
LOOKS = (
    A,
    ("rows", A, (("is", "v", "x"),)),
    ("rows", A, (("not", "v", "x"), ("unlike", "k", "v"))),
    VALUES,
    ("called", ("columns", A, ("v", "k")), (("k", "v"), ("v", "k"))),
    ("join", A, B),
    ("columns", ("join", A, B), ("k", "w")),
    ("join", ("columns", A, ("k",)), ("columns", B, ("w",))),
    ("union", VALUES, ("columns", B, ("v",))),
    ("gap", VALUES, ("columns", B, ("v",))),
    ("gap", ("columns", B, ("v",)), VALUES),
    ("gap", VALUES, ("gap", VALUES, ("columns", B, ("v",)))),
    ("columns", ("gap", A, ("columns", ("join", A, B), ("k", "v"))), ("k",)),
)
RULES = (
    ("known", ("gap", VALUES, ("columns", B, ("v",)))),
    ("noqy", ("rows", A, (("is", "k", "q"), ("is", "v", "y")))),
    ("nox", ("rows", B, (("like", "v", "w"),))),
    ("noz", ("rows", B, (("is", "v", "x"), ("is", "w", "z")))),
)
STAYS = (("a", ""), ("a", "v"), ("b", ""), ("b", "w"))


class Led(unittest.TestCase):
    """Checks of what is told against all ways and against papers gone through as worded."""

    def check(self, schema, filling, rules, stays, look, ask):
        case = (schema, filling, rules, stays, look, ask)
        self.assertIs(is_ask(schema, filling, look, ask), True)
        answer = lead_back(*case)
        ways = all_ways(*case)
        least = [change for cost, change in ways if cost == ways[0][0]]
        if len(least) == 1:
            self.assertEqual(answer[:2], ("way", least[0]))
            self.assertEqual(len(answer), 3)
            self.way(case, *answer[1:])
        elif least:
            self.assertEqual((answer[0], len(answer)), ("two", 4))
            self.assertIn(answer[1], least)
            self.assertIn(answer[2], least)
            self.assertNotEqual(answer[1], answer[2])
            self.assertIs(shows_two(*case, *answer[1:]), True)
            self.assertTrue(is_right_paper(*case, ways[0][0] - 1, None, answer[3]))
        else:
            self.none(case, answer)
        return answer[0]

    def way(self, case, change, paper):
        schema, filling, rules, stays, look, ask = case
        self.assertIs(is_way(*case, change), True)
        self.assertIs(shows_way(*case, change, paper), True)
        self.assertTrue(is_right_paper(*case, cost_of(schema, change), change, paper))
        behind = changed(schema, filling, change)
        self.assertEqual(told(schema, behind, look), rows_asked(schema, filling, look, ask))
        self.assertIsNone(broken(schema, behind, rules))
        if ask == ((), ()):
            self.assertEqual(change, ())

    def none(self, case, answer):
        schema, filling, rules, stays, look, ask = case
        ahead = [all_ways(schema, filling, rules[:many], stays, look, ask) for many in range(len(rules) + 1)]
        many = [len(ways) for ways in ahead].index(0)
        short = (schema, filling, rules[:many], stays, look, ask)
        self.assertIs(shows_none(*short, answer[-1]), True)
        self.assertTrue(is_right_paper(*short, None, None, answer[-1]))
        if many == 0:
            self.assertEqual((answer[0], len(answer)), ("never", 2))
        else:
            self.assertEqual(answer[:2], ("barred", rules[many - 1][0]))
            self.assertEqual(len(answer), 4)
            self.assertIn((ahead[many - 1][0][0], answer[2]), ahead[many - 1])


class AllFillings(Led):
    def test_each_look_each_filling_each_ask_that_some_filling_meets(self):
        fillings = all_fillings(FEW)
        self.assertEqual(len(fillings), 81)
        kinds = {}
        for look in LOOKS:
            self.assertIs(is_look(FEW, look), True)
            results = sorted({told(FEW, filling, look) for filling in fillings})
            for filling in fillings:
                rows = told(FEW, filling, look)
                for wanted in results:
                    ask = (tuple(row for row in rows if row not in wanted),
                           tuple(row for row in wanted if row not in rows))
                    kind = self.check(FEW, filling, (), (), look, ask)
                    kinds[kind] = kinds.get(kind, 0) + 1
        self.assertEqual(sorted(kinds), ["two", "way"])
        self.assertGreater(min(kinds.values()), 90)

    def test_with_rules_and_stays(self):
        kinds = {}
        for at, look in enumerate(LOOKS):
            fillings = [filling for filling in all_fillings(FEW) if broken(FEW, filling, RULES) is None]
            results = sorted({told(FEW, filling, look) for filling in all_fillings(FEW)})
            for step, filling in enumerate(fillings):
                rows = told(FEW, filling, look)
                stays = tuple(pair for k, pair in enumerate(STAYS) if (at + step) // (k + 1) % 4 == 1)
                rules = (RULES[step % 4:] + RULES[:step % 4])[:(at + step) % 5]
                for wanted in results[step % 3::3]:
                    ask = (tuple(row for row in rows if row not in wanted),
                           tuple(row for row in wanted if row not in rows))
                    kind = self.check(FEW, filling, rules, stays, look, ask)
                    kinds[kind] = kinds.get(kind, 0) + 1
        self.assertEqual(sorted(kinds), ["barred", "never", "two", "way"])
        self.assertGreater(min(kinds.values()), 9)

    def test_what_no_filling_does(self):
        filling = ((("p", "x"),), (("x", "z"),))
        for look, ask in (
                (A, ((), (("p", "y"),))), (A, ((), (("u", "x"),))), (A, ((), (("p", "zebra"),))),
                (VALUES, ((), (("y",), ("z",)))), (("gap", A, A), ((), (("p", "x"),))),
                (("gap", VALUES, VALUES), ((), (("y",),))), (("rows", A, (("is", "v", "x"),)), ((), (("q", "y"),))),
                (("join", A, A), ((), (("p", "y"),))), (("join", A, B), ((), (("p", "x", "x"),)))):
            self.assertEqual(self.check(FEW, filling, (), (), look, ask), "never")
            self.assertEqual(self.check(FEW, filling, RULES[1:3], (), look, ask), "never")

    def test_many_schemas(self):
        self.many_schemas(range(2500))

    def test_many_schemas_with_a_tree_without_bound_beside(self):
        # Small schemas are settled at once, so that tree is made to grow from the beginning.
        with mock.patch.object(leading, "STRIDE", 1):
            self.many_schemas(range(2500, 5000))

    def many_schemas(self, seeds):
        kinds = {}
        for seed in seeds:
            chance = Chance(seed)
            if how_many_fillings(chance.schema) > 400:
                continue
            filling, other = chance.filling(), chance.filling()
            look, columns = chance.look(seed % 6 + 1)
            ask = chance.ask(told(chance.schema, filling, look), told(chance.schema, other, look))
            if ask == ((), ()) and seed % 20 > 0:
                continue
            rules = chance.rules(filling, seed % 7)
            kind = self.check(chance.schema, filling, rules, chance.stays(seed % 4 * 0.1), look, ask)
            kinds[kind] = kinds.get(kind, 0) + 1
        self.assertEqual(sorted(kinds), ["barred", "never", "two", "way"])
        self.assertGreater(min(kinds.values()), 4)


class Ways(unittest.TestCase):
    """Asks whose answers can be seen by looking at the tables."""

    OF = ("of", "folk")
    TOWN = ("of", "towns")
    KNOWN = ("known", ("gap", ("columns", OF, ("town",)), ("columns", TOWN, ("town",))))
    NOBODY = ("nobody", ("rows", OF, (("is", "name", "zebra"),)))

    def way(self, look, ask, change, rules=(), stays=(), filling=FILLING):
        case = (SCHEMA, filling, rules, stays, look, ask)
        answer = lead_back(*case)
        self.assertEqual(answer[:2], ("way", change))
        self.assertIs(shows_way(*case, answer[1], answer[2]), True)
        self.assertEqual(lead_back(*case), answer)
        return cost_of(SCHEMA, change)

    def two(self, look, ask, changes, rules=(), stays=(), filling=FILLING):
        case = (SCHEMA, filling, rules, stays, look, ask)
        answer = lead_back(*case)
        self.assertEqual((answer[0], len(answer)), ("two", 4))
        self.assertNotEqual(answer[1], answer[2])
        self.assertIn(answer[1], changes)
        self.assertIn(answer[2], changes)
        self.assertIs(shows_two(*case, *answer[1:]), True)
        self.assertEqual(lead_back(*case), answer)

    def test_nothing_asked(self):
        for look in (self.OF, ("gap", self.OF, self.OF), ("join", self.OF, self.TOWN)):
            for rules in ((), (self.KNOWN, self.NOBODY)):
                answer = lead_back(SCHEMA, FILLING, rules, (), look, ((), ()))
                self.assertEqual(answer, ("way", (), (("way",),)))

    def test_a_cell(self):
        ann, bob, cid = FILLING[0]
        look = ("rows", self.OF, (("is", "town", "bath"),))
        self.way(look, ((ann,), ()), (("folk", ("ann",), ann, ("ann", "york", "cook")),))
        self.way(look, ((), (("bob", "bath", "none"),)), (("folk", ("bob",), bob, ("bob", "bath", "none")),))
        self.way(look, ((), (("bob", "bath", "cook"),)), (("folk", ("bob",), bob, ("bob", "bath", "cook")),))
        self.way(look, ((ann,), ()), (("folk", ("ann",), ann, None),), stays=(("folk", "town"),))

    def test_of_a_join(self):
        ann, bob, cid = FILLING[0]
        look = ("rows", ("join", self.OF, self.TOWN), (("is", "name", "ann"),))
        moved = (("folk", ("ann",), ann, ("ann", "york", "cook")),)
        gone = (("towns", ("bath", "west"), ("bath", "west"), None),)
        comes = (("ann", "york", "cook", "east"), ("ann", "york", "cook", "west"))
        self.way(look, ((ann + ("west",),), comes), moved)
        self.way(look, ((ann + ("west",),), ()), gone)
        few = ((ann,), (("bath", "west"),))
        self.way(look, ((ann + ("west",),), ()), moved, filling=few)
        self.way(look, ((ann + ("west",),), ()), gone, filling=few, stays=(("folk", "town"),))
        self.way(look, ((ann + ("west",),), ()), (("folk", ("ann",), ann, None),), filling=few,
                 stays=(("folk", "town"), ("towns", "")))

    def test_two(self):
        ann, bob, cid = FILLING[0]
        jobs = ("columns", self.OF, ("job",))
        changes = [(("folk", row[:1], row, row[:2] + ("none",)),) for row in (ann, cid)]
        self.two(jobs, ((), (("none",),)), changes, filling=((ann, cid), ()))
        self.way(jobs, ((), (("none",),)), changes[0], filling=((ann, cid), ()), rules=(
            ("nocid", ("rows", self.OF, (("is", "name", "cid"), ("is", "job", "none")))),))

    def test_costs_greater_than_nine(self):
        look = ("join", self.OF, self.TOWN)
        comes = tuple((name, "bath", "cook", "east") for name in ("ann", "bob", "cid"))
        change = tuple(("folk", row[:1], None, row[:3]) for row in comes) + (
            ("towns", ("bath", "east"), None, ("bath", "east")),)
        self.assertEqual(self.way(look, ((), comes), change, filling=((), ())), 17)
        lands = ("columns", self.TOWN, ("land",))
        gone = tuple(("folk", row[:1], row, None) for row in FILLING[0])
        names = ("columns", self.OF, ("name",))
        self.assertEqual(self.way(names, ((("ann",), ("bob",), ("cid",)), ()), gone), 9)
        pairs = ("join", names, lands)
        rows = told(SCHEMA, FILLING, pairs)
        self.assertEqual(len(rows), 6)
        self.assertEqual(self.way(pairs, (rows, ()), gone, stays=(("towns", ""),)), 9)
        change = tuple(("towns", row, row, None) for row in FILLING[1])
        self.assertEqual(self.way(pairs, (rows, ()), change), 6)

    def test_barred(self):
        ann, bob, cid = FILLING[0]
        look = ("columns", self.TOWN, ("town",))
        ask = ((("bath",),), ())
        gone = ("towns", ("bath", "west"), ("bath", "west"), None)
        case = (SCHEMA, FILLING, (self.NOBODY, self.KNOWN, ("more", ("gap", look, look))), (("folk", ""),), look, ask)
        answer = lead_back(*case)
        self.assertEqual(answer[:3], ("barred", "known", (gone,)))
        self.assertIs(shows_none(*case, answer[3]), True)
        self.assertIs(shows_none(*case[:2], case[2][:2], *case[3:], answer[3]), True)
        self.assertIs(shows_none(*case[:2], case[2][:1], *case[3:], answer[3]), False)
        self.way(look, ask, (("folk", ("ann",), ann, ("ann", "york", "cook")), gone), rules=case[2])

    def test_never(self):
        look = ("columns", self.OF, ("job",))
        for rules in ((), (self.KNOWN,), (self.NOBODY, self.KNOWN)):
            case = (SCHEMA, FILLING, rules, (), look, ((), (("king",),)))
            answer = lead_back(*case)
            self.assertEqual((answer[0], len(answer)), ("never", 2))
            self.assertIs(shows_none(*case[:2], (), *case[3:], answer[1]), True)

    def test_nothing_is_left_to_be_changed(self):
        case = (SCHEMA, FILLING, (), (("folk", ""), ("towns", "")), self.OF, (FILLING[0][:1], ()))
        self.assertEqual(lead_back(*case), ("never", (("row", FILLING[0][0]),)))

    def test_looks_of_looks_deeper_than_eight(self):
        ann, bob, cid = FILLING[0]
        look = ("rows", self.OF, (("is", "town", "bath"),))
        for step in range(9):
            look = ("columns", ("union", look, self.OF if step == 4 else look), ("name", "town", "job"))
            look = ("rows", look, (("is", "town", "bath"),))
        self.way(look, ((ann,), ()), (("folk", ("ann",), ann, ("ann", "york", "cook")),))


class Large(unittest.TestCase):
    """Tables whose fillings nobody could go through."""

    VALUES = ("d", "b", "c", "a")

    def table(self, name, columns, keys):
        return (name, tuple((column, self.VALUES) for column in columns), keys)

    def led(self, case):
        answer = lead_back(*case)
        shows = {"way": shows_way, "two": shows_two, "never": shows_none}[answer[0]]
        self.assertIs(shows(*case, *answer[1:]), True)
        return answer

    def test_all_rows_of_a_cut_go(self):
        schema = (self.table("t", ("k", "l", "m", "n"), 4),)
        rows = keys_of(schema, "t")
        case = (schema, (rows,), (), (), ("columns", ("of", "t"), ("m", "n")), ((("a", "b"),), ()))
        gone = tuple(("t", row, row, None) for row in rows if row[2:] == ("a", "b"))
        self.assertEqual(self.led(case)[:2], ("way", gone))
        self.assertEqual(cost_of(schema, gone), 64)

    def test_a_row_comes_in_a_join(self):
        schema = (self.table("s", ("k", "l", "m", "n"), 1), self.table("t", ("l", "m", "n", "o"), 1))
        case = (schema, ((), ()), (), (), ("join", ("of", "s"), ("of", "t")), ((), (("a", "d", "c", "a", "d"),)))
        answer = self.led(case)
        self.assertEqual(answer[:2], ("way", (("s", ("a",), None, ("a", "d", "c", "a")),
                                              ("t", ("d",), None, ("d", "c", "a", "d")))))
        self.assertEqual(cost_of(schema, answer[1]), 12)

    def test_a_row_of_many_options(self):
        schema = (self.table("s", ("k", "l", "m", "n"), 1), self.table("t", ("l", "m", "n", "o"), 3))
        rows = tuple(key + ("b",) for key in keys_of(schema, "t") if "d" not in key)
        case = (schema, ((("a", "d", "d", "d"),), rows), (), (),
                ("columns", ("join", ("of", "s"), ("of", "t")), ("k", "o")), ((), (("a", "b"),)))
        answer = self.led(case)
        self.assertEqual(answer[0], "two")
        self.assertEqual(cost_of(schema, answer[1]), 3)
        known = (("known", ("rows", ("of", "s"), (("unlike", "l", "m"),))), ("nob", ("rows", ("of", "s"), (
            ("is", "l", "b"),))), ("noc", ("rows", ("of", "s"), (("is", "n", "c"),))), ("nolb", ("rows", ("of", "s"), (
                ("is", "n", "b"),))), ("nol", ("rows", ("of", "s"), (("is", "l", "c"),))))
        answer = self.led(case[:2] + (known,) + case[3:])
        self.assertEqual(answer[:2], ("way", (("s", ("a",), ("a", "d", "d", "d"), ("a", "a", "a", "a")),)))

    def test_what_never_is(self):
        schema = (self.table("s", ("k", "l", "m", "n"), 4), self.table("t", ("k", "l", "m", "n"), 4))
        filling = (keys_of(schema, "s"), ())
        look = ("gap", ("of", "s"), ("gap", ("of", "s"), ("of", "t")))
        row = ("a", "b", "c", "d")
        self.assertEqual(self.led((schema, filling, (), (), look, ((), (row,))))[:2], ("way", (("t", row, None, row),)))
        self.assertEqual(self.led((schema, filling, (), (("t", ""),), look, ((), (row,))))[0], "never")
        self.assertEqual(self.led((schema, filling, (), (), ("gap", look, ("of", "t")), ((), (row,))))[0], "never")


if __name__ == "__main__":
    unittest.main()
