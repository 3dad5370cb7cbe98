import itertools
import unittest

from lookback.fillings import row_at
from lookback.halves import may, sure
from lookback.looks import columns_of
from lookback.schemas import keys_of
from lookback.stands import afters
from lookback.telling import told
from chance import PAIRED, Chance, records_of_form, table_records
from samples import EMPTY, FILLING, SCHEMA

OF = ("of", "folk")
TOWN = ("of", "towns")
ANN, BOB, CID = FILLING[0]
NAMES = ("columns", OF, ("name",))
IS_ANN = ("rows", OF, (("is", "name", "ann"),))


def tables_of_halves(schema, filling, stays, decided, bound):
    """The rows that are sure, and those that may be, table by table, as the document words it."""
    costs = {name_key: dict((after, cost) for cost, after in afters(schema, filling, stays, *name_key))
             for name_key in [(name, key) for name, columns, keys in schema for key in keys_of(schema, name)]}
    fixed = {(name, key): after for name, key, after in decided}
    spent = sum(costs[name_key][after] for name_key, after in fixed.items())
    sures, mays = [], []
    for name, columns, keys in schema:
        sures.append([])
        mays.append([])
        for key in keys_of(schema, name):
            if (name, key) in fixed:
                can_be = [fixed[name, key]]
            else:
                can_be = [after for after, cost in costs[name, key].items() if bound is None or cost <= bound - spent]
            rows = [row for row in can_be if row is not None]
            mays[-1] += rows
            sures[-1] += rows if len(can_be) == 1 else []
    return sures, mays


def halves(schema, sures, mays, look):
    """The records that are sure, and those that may be."""
    if look[0] == "of":
        return table_records(schema, sures, look[1]), table_records(schema, mays, look[1])
    one_sure, one_may = halves(schema, sures, mays, look[1])
    other_sure, other_may = halves(schema, sures, mays, look[2]) if look[0] in PAIRED else ([], [])
    if look[0] == "gap":
        other_sure, other_may = other_may, other_sure
    return records_of_form(look, one_sure, other_sure), records_of_form(look, one_may, other_may)


def choices(schema, filling, stays, decided, bound):
    """All fillings, with what they cost, that are let and bear what is decided."""
    fixed = {(name, key): after for name, key, after in decided}
    tables = []
    for name, columns, keys in schema:
        pairs = [[(cost, after) for cost, after in afters(schema, filling, stays, name, key)
                  if (name, key) not in fixed or fixed[name, key] == after] for key in keys_of(schema, name)]
        tables.append(list(itertools.product(*pairs)))
    for chosen in itertools.product(*tables):
        cost = sum(pair[0] for pairs in chosen for pair in pairs)
        if bound is None or cost <= bound:
            yield tuple(tuple(row for cost, row in pairs if row is not None) for pairs in chosen)


class Halves(unittest.TestCase):
    def tells(self, look, sure_rows, may_rows, decided=(), bound=None, stays=(), filling=FILLING):
        for step in range(2):
            self.assertEqual(sure(SCHEMA, filling, stays, decided, bound, look), sure_rows)
            self.assertEqual(may(SCHEMA, filling, stays, decided, bound, look), may_rows)

    def all_rows(self, name):
        return tuple(sorted(row for key in keys_of(SCHEMA, name)
                            for cost, row in afters(SCHEMA, FILLING, (), name, key) if row is not None))

    def test_nothing_decided_without_end(self):
        self.tells(OF, (), self.all_rows("folk"))
        self.tells(TOWN, (), keys_of(SCHEMA, "towns"))
        self.tells(OF, (), self.all_rows("folk"), filling=EMPTY)

    def test_nothing_decided_nothing_left(self):
        self.tells(OF, FILLING[0], FILLING[0], bound=0)
        self.tells(TOWN, FILLING[1], FILLING[1], bound=0)
        self.tells(OF, (), (), bound=0, filling=EMPTY)

    def test_bounds(self):
        near = tuple(sorted([ANN, ("ann", "bath", "none"), ("ann", "york", "cook"),
                             BOB, ("bob", "bath", "none"), ("bob", "york", "cook"),
                             CID, ("cid", "york", "none"), ("cid", "bath", "cook")]))
        self.tells(OF, (), near, bound=1)
        self.tells(TOWN, FILLING[1], FILLING[1], bound=1)
        self.tells(OF, (), self.all_rows("folk"), bound=2)
        self.tells(TOWN, (), keys_of(SCHEMA, "towns"), bound=2)
        self.tells(OF, (), (), bound=2, filling=EMPTY)
        self.tells(OF, (), tuple((name, "york", "none") for name in ("ann", "bob", "cid")), bound=3, filling=EMPTY)
        self.tells(NAMES, (), (("ann",), ("bob",), ("cid",)), bound=2)

    def test_a_row_that_can_only_stay_or_change_is_not_sure_but_may_be_cut_so(self):
        # Each half goes by itself: no one row of ann is sure, so her name isn't.
        self.tells(("columns", IS_ANN, ("name",)), (), (("ann",),), bound=2)

    def test_decided_to_none_as_before_and_other(self):
        gone = (("folk", ("ann",), None),)
        kept = (("folk", ("ann",), ANN),)
        other = (("folk", ("ann",), ("ann", "york", "none")),)
        rest = (BOB, CID)
        self.tells(IS_ANN, (), (), decided=gone)
        self.tells(OF, rest, rest, decided=gone, bound=3)
        self.tells(IS_ANN, (ANN,), (ANN,), decided=kept)
        self.tells(OF, FILLING[0], FILLING[0], decided=kept, bound=0)
        self.tells(IS_ANN, (("ann", "york", "none"),), (("ann", "york", "none"),), decided=other)
        self.tells(OF, (("ann", "york", "none"),) + rest, (("ann", "york", "none"),) + rest, decided=other, bound=2)
        self.tells(TOWN, FILLING[1], FILLING[1], decided=other, bound=3)
        self.tells(TOWN, (), keys_of(SCHEMA, "towns"), decided=other, bound=4)

    def test_decided_of_several_tables(self):
        decided = (("folk", ("ann",), None), ("folk", ("bob",), BOB), ("towns", ("bath", "east"), ("bath", "east")))
        self.tells(OF, (BOB, CID), (BOB, CID), decided=decided, bound=5)
        self.tells(TOWN, (("bath", "east"),) + FILLING[1], (("bath", "east"),) + FILLING[1], decided=decided, bound=6)
        self.tells(TOWN, (("bath", "east"),), keys_of(SCHEMA, "towns"), decided=decided, bound=7)
        self.tells(OF, (BOB,), (BOB,) + tuple(row for row in self.all_rows("folk") if row[0] == "cid"),
                   decided=decided)

    def test_stays(self):
        self.tells(OF, FILLING[0], FILLING[0], stays=(("folk", ""),))
        self.tells(TOWN, (), keys_of(SCHEMA, "towns"), stays=(("folk", ""),))
        self.tells(IS_ANN, (), (ANN, ("ann", "bath", "none")), stays=(("folk", "town"),))
        self.tells(IS_ANN, (), (ANN,), stays=(("folk", "job"), ("folk", "town")))
        self.tells(IS_ANN, (ANN,), (ANN,), bound=2, stays=(("folk", "job"), ("folk", "town")))

    def test_join(self):
        self.tells(("join", OF, TOWN), told(SCHEMA, FILLING, ("join", OF, TOWN)),
                   told(SCHEMA, FILLING, ("join", OF, TOWN)), bound=0)
        west = ("rows", TOWN, (("is", "land", "west"), ("is", "town", "bath")))
        decided = (("folk", ("ann",), ANN), ("towns", ("bath", "west"), ("bath", "west")))
        self.tells(("join", IS_ANN, west), (ANN + ("west",),), (ANN + ("west",),), decided=decided)
        self.tells(("join", IS_ANN, west), (), (ANN + ("west",),), decided=decided[:1])
        self.tells(("join", IS_ANN, west), (), (), decided=(("folk", ("ann",), None), decided[1]))

    def test_join_without_common_columns(self):
        lands = ("columns", TOWN, ("land",))
        names = ("columns", IS_ANN, ("name",))
        kept = (("folk", ("ann",), ANN),)
        self.tells(("join", names, lands), (), (("ann", "east"), ("ann", "west")), decided=kept)
        self.tells(("join", names, lands), (("ann", "east"), ("ann", "west")), (("ann", "east"), ("ann", "west")),
                   decided=kept, bound=1)

    def test_union(self):
        other = ("rows", OF, (("is", "name", "bob"),))
        self.tells(("union", IS_ANN, other), (ANN,), (ANN,), decided=(("folk", ("ann",), ANN), ("folk", ("bob",), None)))
        self.tells(("union", IS_ANN, other), (BOB,), (BOB,), decided=(("folk", ("ann",), None), ("folk", ("bob",), BOB)))

    def test_called(self):
        self.tells(("called", IS_ANN, (("name", "who"),)), (ANN,), (ANN,), decided=(("folk", ("ann",), ANN),))

    def test_gap_turns_the_halves_about(self):
        ann, bath = (("ann",),), (("bath",),)
        towns = ("columns", OF, ("town",))
        lost = ("gap", towns, ("columns", TOWN, ("town",)))
        kept = (("folk", ("ann",), ANN), ("folk", ("bob",), None), ("folk", ("cid",), None))
        bare = (("towns", ("bath", "east"), None), ("towns", ("bath", "west"), None))
        there = (("towns", ("bath", "east"), ("bath", "east")),)
        self.tells(lost, (), bath, decided=kept)
        self.tells(lost, bath, bath, decided=kept + bare)
        self.tells(lost, (), (), decided=kept + there)
        self.tells(lost, (), bath + (("york",),), decided=bare)
        self.tells(lost, (), (("york",),), decided=there)
        self.tells(("gap", NAMES, NAMES), (), ann + (("bob",), ("cid",)))
        self.tells(("gap", NAMES, NAMES), (), (), bound=0)

    def test_gap_in_a_gap(self):
        twice = ("gap", OF, ("gap", OF, IS_ANN))
        kept = (("folk", ("ann",), ANN),)
        self.tells(twice, (ANN,), (ANN,), bound=0)
        self.tells(twice, (ANN,), (ANN,) + tuple(row for row in self.all_rows("folk") if row[0] != "ann"),
                   decided=kept)
        self.tells(twice, (), self.all_rows("folk"))

    def test_many_as_worded(self):
        some = 0
        for seed in range(400):
            chance = Chance(seed)
            schema, filling, stays = chance.schema, chance.filling(), chance.stays(0.15)
            look, columns = chance.look(seed % 5 + 1)
            decided, bound = self.decided(chance, filling, stays)
            wanted = halves(schema, *tables_of_halves(schema, filling, stays, decided, bound), look)
            rows = [tuple(sorted(tuple(row[column] for column in columns) for row in half)) for half in wanted]
            self.assertEqual(sure(schema, filling, stays, decided, bound, look), rows[0])
            self.assertEqual(may(schema, filling, stays, decided, bound, look), rows[1])
            self.assertEqual(columns_of(schema, look), columns)
            some += 0 < len(rows[0]) < len(rows[1])
        self.assertGreater(some, 40)

    def decided(self, chance, filling, stays):
        decided, cost = [], 0
        for name, columns, keys in chance.schema:
            for key in keys_of(chance.schema, name):
                if chance.random.random() < 0.4:
                    pair = chance.random.choice(afters(chance.schema, filling, stays, name, key))
                    decided.append((name, key, pair[1]))
                    cost += pair[0]
        return tuple(decided), chance.random.choice((None, cost, cost + 1, cost + 2, cost + 4))

    def test_what_is_told_lies_between_the_halves(self):
        schema = (("a", (("k", ("p", "q")), ("v", ("x", "y"))), 1), ("b", (("k", ("p",)), ("v", ("x", "y"))), 1))
        one, two = ("of", "a"), ("of", "b")
        looks = (("join", one, two), ("union", one, two), ("gap", one, two), ("gap", two, ("gap", one, two)),
                 ("columns", ("gap", one, two), ("v",)), ("gap", ("columns", one, ("v",)), ("columns", two, ("v",))))
        filling = ((("p", "x"), ("q", "y")), ())
        for decided in ((), (("a", ("p",), None),), (("a", ("p",), ("p", "y")), ("b", ("p",), ("p", "x")))):
            for bound in (None, 4, 3):
                for look in looks:
                    least = set(sure(schema, filling, (), decided, bound, look))
                    most = set(may(schema, filling, (), decided, bound, look))
                    for other in choices(schema, filling, (), decided, bound):
                        rows = set(told(schema, other, look))
                        self.assertTrue(least <= rows <= most)

    def test_all_decided_is_what_is_told(self):
        for seed in range(100):
            chance = Chance(seed)
            look, columns = chance.look(4)
            filling, other = chance.filling(), chance.filling()
            decided = tuple((name, key, row_at(chance.schema, other, name, key))
                            for name, names, keys in chance.schema for key in keys_of(chance.schema, name))
            rows = told(chance.schema, other, look)
            self.assertEqual(sure(chance.schema, filling, (), decided, None, look), rows)
            self.assertEqual(may(chance.schema, filling, (), decided, None, look), rows)


if __name__ == "__main__":
    unittest.main()
