import copy
import unittest

from lookback.books import unfolded
from lookback.changes import back_of, changed, is_change
from lookback.counted import Counted
from lookback.counting import counts
from lookback.errors import LookError, NoChange
from lookback.schemas import keys_of
from lookback.sources import sources
from lookback.telling import told
from chance import Chance, counted_records
from samples import EMPTY, FILLING, JUNK, SCHEMA, as_lists, shown, with_junk

OF, TOWN = ("of", "folk"), ("of", "towns")
ANN, BOB, CID = FILLING[0]
IS_ANN = ("rows", OF, (("is", "name", "ann"),))
JOBS = ("columns", OF, ("job",))
PLACES = ("columns", OF, ("town",))
BOTH = ("columns", ("join", OF, TOWN), ("land",))
SEVEN = (OF, ("rows", PLACES, (("is", "town", "york"),)), JOBS, ("called", PLACES, (("town", "job"),)),
         ("join", JOBS, PLACES), ("union", JOBS, ("called", PLACES, (("town", "job"),))), ("gap", BOTH, JOBS[:1] + (
             ("called", TOWN, (("town", "x"),)), ("land",))), BOTH)


def counts_gone_through(schema, filling, look, columns):
    """The rising tuple of pairs (row, count), by records gone through one by one."""
    pairs = counted_records(schema, filling, look)
    return tuple(sorted((tuple(record[column] for column in columns), count) for record, count in pairs))


class Counts(unittest.TestCase):
    def tells(self, look, *pairs):
        self.assertEqual(counts(SCHEMA, FILLING, look), pairs)
        self.assertEqual(counts(SCHEMA, FILLING, look), pairs)
        self.assertEqual(tuple(row for row, count in pairs), told(SCHEMA, FILLING, look))

    def test_of_rows_and_called(self):
        self.tells(OF, (ANN, 1), (BOB, 1), (CID, 1))
        self.tells(IS_ANN, (ANN, 1))
        self.tells(("rows", PLACES, (("is", "town", "york"),)), (("york",), 2))
        self.tells(("called", PLACES, (("town", "place"),)), (("bath",), 1), (("york",), 2))
        self.tells(("called", OF, (("town", "job"), ("job", "town"))), (ANN, 1), (BOB, 1), (CID, 1))

    def test_columns(self):
        self.tells(JOBS, (("cook",), 2), (("none",), 1))
        self.tells(("columns", OF, ("job", "town")), (("cook", "bath"), 1), (("cook", "york"), 1),
                   (("none", "york"), 1))
        self.tells(("columns", ("columns", OF, ("job", "town")), ("job",)), (("cook",), 2), (("none",), 1))

    def test_join(self):
        self.tells(("join", IS_ANN, TOWN), (ANN + ("west",), 1))
        self.tells(("join", OF, OF), (ANN, 1), (BOB, 1), (CID, 1))
        self.tells(("join", JOBS, JOBS), (("cook",), 4), (("none",), 1))
        self.tells(("join", JOBS, PLACES), (("cook", "bath"), 2), (("cook", "york"), 4), (("none", "bath"), 1),
                   (("none", "york"), 2))
        self.tells(BOTH, (("east",), 2), (("west",), 3))

    def test_union(self):
        self.tells(("union", OF, IS_ANN), (ANN, 2), (BOB, 1), (CID, 1))
        self.tells(("union", JOBS, JOBS), (("cook",), 4), (("none",), 2))
        self.tells(("union", PLACES, ("columns", TOWN, ("town",))), (("bath",), 2), (("york",), 4))

    def test_gap(self):
        self.tells(("gap", OF, IS_ANN), (BOB, 1), (CID, 1))
        self.tells(("gap", JOBS, ("columns", ("gap", OF, IS_ANN), ("job",))))
        self.tells(("gap", PLACES, ("columns", IS_ANN, ("town",))), (("york",), 2))
        self.tells(("gap", ("columns", ("union", OF, OF), ("town",)), ("columns", IS_ANN, ("town",))), (("york",), 4))

    def test_none(self):
        for look in SEVEN:
            self.assertEqual(counts(SCHEMA, EMPTY, look), ())
        self.tells(("gap", OF, OF))

    def test_looks_of_looks(self):
        book = (("jobs", JOBS), ("twice", ("union", ("of", "jobs"), ("of", "jobs"))),
                ("pairs", ("join", ("of", "twice"), ("called", ("of", "jobs"), (("job", "other"),)))))
        self.tells(unfolded(book, ("columns", ("of", "pairs"), ("other",))), (("cook",), 12), (("none",), 6))

    def test_deeper_than_eight(self):
        look = JOBS
        for step in range(60):
            look = ("rows", look, (("is", "job", "cook"),))
        self.tells(look, (("cook",), 2))
        look = JOBS
        for step in range(20):
            look = ("union", look, JOBS)
        self.tells(look, (("cook",), 42), (("none",), 21))

    def test_large_counts(self):
        look = JOBS
        for step in range(7):
            look = ("join", look, look)
        self.tells(look, (("cook",), 2 ** 128), (("none",), 1))

    def test_many(self):
        several = {}
        for seed in range(1500):
            chance = Chance(seed)
            filling = chance.filling()
            look, columns = chance.look(seed % 6 + 1)
            wanted = counts_gone_through(chance.schema, filling, look, columns)
            self.assertEqual(counts(chance.schema, filling, look), wanted)
            if any(count > 1 for row, count in wanted):
                several[look[0]] = several.get(look[0], 0) + 1
        self.assertEqual(sorted(several), ["called", "columns", "gap", "join", "rows", "union"])
        self.assertGreater(min(several.values()), 5)


class Kept(unittest.TestCase):
    """Checks of a kept look against what is told anew."""

    def same(self, counted, schema, filling, look):
        for step in range(2):
            self.assertEqual(counted.filling(), filling)
            self.assertEqual(counted.rows(), told(schema, filling, look))
            self.assertEqual(counted.counts(), counts(schema, filling, look))

    def does(self, counted, schema, look, change):
        before = counted.filling()
        rows, others = told(schema, before, look), told(schema, changed(schema, before, change), look)
        pair = counted.change(change)
        self.assertEqual(pair, (tuple(row for row in rows if row not in others),
                                tuple(row for row in others if row not in rows)))
        self.assertIsInstance(pair, tuple)
        self.same(counted, schema, changed(schema, before, change), look)
        return pair

    def refuses(self, counted, schema, look, thing):
        before = counted.filling()
        with self.assertRaises(NoChange) as caught:
            counted.change(thing)
        self.assertEqual(caught.exception.__class__.__bases__, (LookError,))
        self.same(counted, schema, before, look)


class IsCounted(Kept):
    GOES = ("folk", ("bob",), BOB, None)
    STAYS = ("folk", ("ann",), ANN, ("ann", "york", "cook"))
    COMES = ("towns", ("bath", "east"), None, ("bath", "east"))
    TURNS = ("towns", ("york", "east"), ("york", "east"), None)
    CHANGES = ((GOES,), (STAYS, COMES), (), (TURNS,), (("folk", ("bob",), None, ("bob", "bath", "cook")),))

    def test_at_first(self):
        for look in SEVEN:
            for filling in (FILLING, EMPTY):
                self.same(Counted(SCHEMA, filling, look), SCHEMA, filling, look)

    def test_each_form_behind_each_change(self):
        for look in SEVEN:
            counted = Counted(SCHEMA, FILLING, look)
            for change in self.CHANGES:
                self.does(counted, SCHEMA, look, change)
            for change in self.CHANGES[::-1]:
                self.does(counted, SCHEMA, look, back_of(change))
            self.same(counted, SCHEMA, FILLING, look)

    def test_gone_and_come(self):
        counted = Counted(SCHEMA, FILLING, PLACES)
        self.assertEqual(counted.change((self.GOES,)), ((), ()))
        self.assertEqual(counted.counts(), ((("bath",), 1), (("york",), 1)))
        self.assertEqual(counted.change((self.STAYS,)), ((("bath",),), ()))
        self.assertEqual(counted.counts(), ((("york",), 2),))
        self.assertEqual(counted.rows(), (("york",),))
        moved = tuple(("folk", row[:1], row, row[:1] + ("bath", "none")) for row in (("ann", "york", "cook"), CID))
        self.assertEqual(counted.change(moved), ((("york",),), (("bath",),)))
        self.assertEqual(counted.counts(), ((("bath",), 2),))
        self.assertEqual(counted.change((self.COMES,)), ((), ()))
        self.assertEqual(counted.change(()), ((), ()))

    def test_rising(self):
        counted = Counted(SCHEMA, EMPTY, OF)
        comes = tuple(("folk", row[:1], None, row) for row in FILLING[0])
        self.assertEqual(counted.change(comes), ((), (ANN, BOB, CID)))
        self.assertEqual(counted.change(back_of(comes)), ((ANN, BOB, CID), ()))
        self.assertEqual(counted.rows(), ())

    def test_a_gap_opens_and_closes(self):
        counted = Counted(SCHEMA, FILLING, ("gap", PLACES, ("columns", TOWN, ("town",))))
        gone = ("towns", ("bath", "west"), ("bath", "west"), None)
        self.assertEqual(counted.change((gone,)), ((), (("bath",),)))
        self.assertEqual(counted.change((self.COMES,)), ((("bath",),), ()))
        both = tuple(("towns", ("york", land), ("york", land), None) for land in ("east", "west"))
        self.assertEqual(counted.change(both[:1]), ((), ()))
        self.assertEqual(counted.change(both[1:]), ((), (("york",),)))
        self.assertEqual(counted.counts(), ((("york",), 2),))

    def test_both_sides_of_a_join_at_once(self):
        look = ("join", ("columns", OF, ("town", "job")), TOWN)
        counted = Counted(SCHEMA, FILLING, look)
        change = (("folk", ("ann",), ANN, ("ann", "york", "cook")), ("folk", ("cid",), CID, ("cid", "bath", "cook")),
                  ("towns", ("bath", "east"), None, ("bath", "east")),
                  ("towns", ("york", "west"), ("york", "west"), None))
        self.does(counted, SCHEMA, look, change)
        self.does(counted, SCHEMA, look, back_of(change))

    def test_what_is_no_change_by_now(self):
        for look in SEVEN:
            counted = Counted(SCHEMA, FILLING, look)
            things = [
                (self.COMES, self.GOES), (self.GOES, self.GOES), [self.GOES], (list(self.GOES),), (self.GOES[:3],),
                (self.GOES + (None,),), self.GOES, (("folk", ("bob",), None, BOB),),
                (("folk", ("bob",), ("bob", "bath", "none"), None),), (("folk", ("bob",), BOB, BOB),),
                (("folk", ("bob",), BOB, ANN),), (("folks", ("bob",), BOB, None),),
                (("folk", ("dan",), None, ("dan", "bath", "none")),)]
            for thing in things + list(JUNK):
                if not (isinstance(thing, tuple) and len(thing) == 0):
                    self.refuses(counted, SCHEMA, look, thing)
            self.does(counted, SCHEMA, look, (self.GOES,))
            self.refuses(counted, SCHEMA, look, (self.GOES,))
            self.does(counted, SCHEMA, look, back_of((self.GOES,)))
            self.refuses(counted, SCHEMA, look, back_of((self.GOES,)))

    def test_things_of_other_kinds_within(self):
        counted = Counted(SCHEMA, FILLING, BOTH)
        change = (self.STAYS, self.COMES)
        for thing in list(with_junk(change)) + list(as_lists(change)):
            if not is_change(SCHEMA, FILLING, thing):
                with self.assertRaises(NoChange, msg=shown(thing)):
                    counted.change(thing)
        self.same(counted, SCHEMA, FILLING, BOTH)

    def test_two_beside_one_another(self):
        one, other = Counted(SCHEMA, FILLING, BOTH), Counted(SCHEMA, FILLING, BOTH)
        before = copy.deepcopy((SCHEMA, FILLING, BOTH))
        self.does(one, SCHEMA, BOTH, (self.STAYS,))
        self.same(other, SCHEMA, FILLING, BOTH)
        self.does(other, SCHEMA, BOTH, (self.GOES,))
        self.assertEqual((SCHEMA, FILLING, BOTH), before)

    def test_many(self):
        kinds = {"gone": 0, "come": 0, "other": 0}
        for seed in range(900):
            chance = Chance(seed)
            first = chance.filling()
            book = chance.book(seed % 4, 4)
            look, columns = chance.look(seed % 6 + 1)
            look = unfolded(book, look)
            counted = Counted(chance.schema, first, look)
            done = []
            for step in range(4):
                done.append(chance.change(counted.filling()))
                before = counted.counts()
                gone, come = self.does(counted, chance.schema, look, done[-1])
                kinds["gone"] += bool(gone)
                kinds["come"] += bool(come)
                kinds["other"] += not gone and not come and counted.counts() != before
            wanted = counts_gone_through(chance.schema, counted.filling(), look, columns)
            self.assertEqual(counted.counts(), wanted)
            for change in done[::-1]:
                self.does(counted, chance.schema, look, back_of(change))
            self.same(counted, chance.schema, first, look)
        self.assertGreater(min(kinds.values()), 40)

    def test_a_row_is_there_as_long_as_one_of_its_sources(self):
        many = 0
        for seed in range(900):
            chance = Chance(seed)
            filling = chance.filling()
            look, columns = chance.look(seed % 4 + 2)
            if "gap" in str(look):
                continue
            lots = {row: sources(chance.schema, filling, look, row) for row in told(chance.schema, filling, look)}
            counted = Counted(chance.schema, filling, look)
            pairs = [(table, row) for table, rows in zip(chance.schema, filling) for row in rows]
            chance.random.shuffle(pairs)
            left = [(table[0], row) for table, row in pairs]
            for table, row in pairs:
                counted.change(((table[0], row[:table[2]], row, None),))
                left.remove((table[0], row))
                there = [row for row, sets in lots.items() if any(set(lot) <= set(left) for lot in sets)]
                self.assertEqual(counted.rows(), tuple(there))
                many += 0 < len(there) < len(lots)
        self.assertGreater(many, 100)

    def test_a_large_join(self):
        values = ("a", "b", "c", "d")
        schema = tuple((name, tuple((column, values) for column in columns), 4)
                       for name, columns in (("s", "klmn"), ("t", "mnop")))
        look = ("columns", ("join", ("of", "s"), ("of", "t")), ("m", "n"))
        rows = keys_of(schema, "s")
        filling = (rows[:120], rows[100:220])
        counted = Counted(schema, filling, look)
        for step in range(0, 200, 7):
            row = rows[step]
            change = tuple((name, row, row if row in there else None, None if row in there else row)
                           for name, there in zip("st", counted.filling()))
            self.does(counted, schema, look, change)


if __name__ == "__main__":
    unittest.main()
