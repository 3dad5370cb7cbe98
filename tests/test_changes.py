import copy
import itertools
import unittest

from lookback.changes import back_of, between, changed, cost_of, is_change
from lookback.fillings import is_filling, row_at
from lookback.schemas import keys_of
from chance import Chance
from oracle import all_fillings
from samples import EMPTY, FILLING, JUNK, SCHEMA, as_lists, shown, with_junk

ANN, BOB, CID = FILLING[0]
STAYS = ("folk", ("ann",), ANN, ("ann", "bath", "none"))
GOES = ("folk", ("bob",), BOB, None)
CID_STAYS = ("folk", ("cid",), CID, ("cid", "bath", "none"))
COMES = ("towns", ("bath", "east"), None, ("bath", "east"))
TOWN_GOES = ("towns", ("york", "west"), ("york", "west"), None)
CHANGE = (STAYS, GOES, CID_STAYS, COMES, TOWN_GOES)
FEW = (("a", (("k", ("p", "q")), ("v", ("x", "y"))), 1), ("b", (("k", ("p",)), ("v", ("x", "y"))), 1))


class IsChange(unittest.TestCase):
    def yes(self, thing, filling=FILLING):
        self.assertIs(is_change(SCHEMA, filling, thing), True, shown(thing))

    def no(self, thing, filling=FILLING):
        self.assertIs(is_change(SCHEMA, filling, thing), False, shown(thing))

    def test_none_to_all(self):
        for many in range(len(CHANGE) + 1):
            for change in itertools.combinations(CHANGE, many):
                self.yes(change)
        self.yes((), EMPTY)

    def test_eight_rows(self):
        schema = (("t", (("k", ("a", "b", "c", "d")), ("l", ("a", "b")), ("v", ("x", "y"))), 2),)
        keys = keys_of(schema, "t")
        self.assertEqual(len(keys), 8)
        filling = (tuple(key + ("x",) for key in keys[:5]),)
        change = tuple(("t", key, row_at(schema, filling, "t", key), None if at < 2 else key + ("y",))
                       for at, key in enumerate(keys))
        self.assertIs(is_change(schema, filling, change), True)
        self.assertEqual(changed(schema, filling, change), (tuple(key + ("y",) for key in keys[2:]),))

    def test_another_name_or_key(self):
        self.no((("folks",) + GOES[1:],))
        self.no((("towns",) + GOES[1:],))
        self.no((("folk", ("cid",)) + GOES[2:],))
        self.no((("folk", ("dan",), None, None),))
        self.no((("folk", ("dan",), None, ("dan", "bath", "none")),))
        self.no((("folk", ("york",), None, ("york", "bath", "none")),))
        self.no((("folk", "bob") + GOES[2:],))
        self.no((("folk", ("bob", "york")) + GOES[2:],))
        self.no((("folk", ()) + GOES[2:],))
        self.no((("towns", ("bath",)) + COMES[2:],))
        self.no((("", ("bob",)) + GOES[2:],))

    def test_another_before(self):
        self.no((("folk", ("bob",), None, BOB),))
        self.no((("folk", ("bob",), None, ("bob", "bath", "none")),))
        self.no((("folk", ("bob",), ("bob", "bath", "none"), None),))
        self.no((("folk", ("bob",), ("bob", "bath", "none"), BOB),))
        self.no((("folk", ("bob",), ANN, None),))
        self.no((("towns", ("bath", "east"), ("bath", "east"), None),))
        self.no((GOES,), EMPTY)
        self.yes((("folk", ("bob",), None, BOB),), EMPTY)

    def test_after_as_before(self):
        self.no((("folk", ("bob",), BOB, BOB),))
        self.no((("towns", ("bath", "east"), None, None),))
        self.no((STAYS, ("folk", ("bob",), BOB, BOB)))
        self.no((("folk", ("bob",), None, None),), EMPTY)

    def test_after_of_another_key_or_table_or_no_row(self):
        self.no((("folk", ("bob",), BOB, ("cid", "bath", "none")),))
        self.no((("folk", ("bob",), BOB, ANN),))
        self.no((("towns", ("bath", "east"), None, ("bath", "west")),))
        self.no((("towns", ("bath", "east"), None, ("york", "east")),))
        self.no((("folk", ("bob",), BOB, ("bath", "west")),))
        self.no((("towns", ("bath", "east"), None, ("bob", "bath", "none")),))
        self.no((("folk", ("bob",), BOB, ("bob", "bath")),))
        self.no((("folk", ("bob",), BOB, ("bob", "bath", "none", "none")),))
        self.no((("folk", ("bob",), BOB, ("bob", "rome", "none")),))
        self.no((("folk", ("bob",), BOB, ("bob", "none", "bath")),))
        self.no((("folk", ("bob",), BOB, ()),))

    def test_twice(self):
        self.no((GOES, GOES))
        self.no((STAYS, ("folk", ("ann",), ANN, None)))
        self.no((STAYS, ("folk", ("ann",), ANN, ("ann", "york", "none"))))
        self.no((("folk", ("ann",), ANN, ("ann", "york", "none")), STAYS))
        self.no((STAYS, GOES, STAYS))

    def test_out_of_order(self):
        self.no((GOES, STAYS))
        self.no((COMES, GOES))
        self.no((STAYS, CID_STAYS, GOES))
        self.no((TOWN_GOES, COMES))

    def test_parts_more_and_fewer(self):
        for part in CHANGE:
            self.no((part[:3],))
            self.no((part[1:],))
            self.no((part + (None,),))
            self.no(part)
            self.no(((),))
            self.no(((part,),))
            self.no((part, ()))

    def test_lists(self):
        for thing in as_lists(CHANGE):
            self.no(thing)
        self.no([])

    def test_anything(self):
        for thing in JUNK:
            if not (isinstance(thing, tuple) and len(thing) == 0):
                self.no(thing)
        afters = [part[3] for part in CHANGE if part[3] is not None and part[2] is not None]

        def is_right(part, junk):
            if part == CHANGE:
                return isinstance(junk, tuple) and len(junk) == 0
            return part is None and junk is None or part in afters and junk is None

        for thing in with_junk(CHANGE, is_right):
            self.no(thing)

    def test_nothing_is_changed(self):
        thing = [["folk", ["bob"], ["bob", "york", "none"], None]]
        before = copy.deepcopy(thing)
        self.no(thing)
        self.no(tuple(thing))
        self.assertEqual(thing, before)


class Behind(unittest.TestCase):
    def test_changed(self):
        self.assertEqual(changed(SCHEMA, FILLING, ()), FILLING)
        self.assertEqual(changed(SCHEMA, FILLING, CHANGE), (
            (("ann", "bath", "none"), ("cid", "bath", "none")),
            (("bath", "east"), ("bath", "west"), ("york", "east"))))
        self.assertEqual(changed(SCHEMA, FILLING, (GOES,)), ((ANN, CID), FILLING[1]))
        self.assertEqual(changed(SCHEMA, FILLING, (COMES,)), (FILLING[0], (("bath", "east"),) + FILLING[1]))

    def test_rows_behind_rise(self):
        change = (("folk", ("bob",), None, BOB),)
        self.assertEqual(changed(SCHEMA, ((ANN, CID), ()), change), ((ANN, BOB, CID), ()))

    def test_between(self):
        self.assertEqual(between(SCHEMA, FILLING, FILLING), ())
        self.assertEqual(between(SCHEMA, FILLING, changed(SCHEMA, FILLING, CHANGE)), CHANGE)
        self.assertEqual(between(SCHEMA, EMPTY, ((BOB,), ())), (("folk", ("bob",), None, BOB),))
        self.assertEqual(between(SCHEMA, ((BOB,), ()), EMPTY), (("folk", ("bob",), BOB, None),))

    def test_back_of(self):
        self.assertEqual(back_of(()), ())
        self.assertEqual(back_of((STAYS, COMES, TOWN_GOES)), (
            ("folk", ("ann",), ("ann", "bath", "none"), ANN),
            ("towns", ("bath", "east"), ("bath", "east"), None),
            ("towns", ("york", "west"), None, ("york", "west"))))

    def test_each_two_fillings(self):
        fillings = all_fillings(FEW)
        self.assertEqual(len(fillings), 27)
        for one in fillings:
            for other in fillings:
                change = between(FEW, one, other)
                self.assertIs(is_change(FEW, one, change), True)
                self.assertEqual(changed(FEW, one, change), other)
                self.assertIs(is_filling(FEW, changed(FEW, one, change)), True)
                self.assertEqual(change == (), one == other)
                self.assertIs(is_change(FEW, other, back_of(change)), True)
                self.assertEqual(back_of(change), between(FEW, other, one))
                self.assertEqual(changed(FEW, other, back_of(change)), one)

    def test_each_two_of_many_fillings(self):
        for seed in range(200):
            chance = Chance(seed)
            one, other = chance.filling(), chance.filling()
            change = between(chance.schema, one, other)
            self.assertIs(is_change(chance.schema, one, change), True)
            self.assertEqual(changed(chance.schema, one, change), other)
            self.assertEqual(change, tuple(sorted(change, key=lambda part: part[:2])))
            self.assertEqual(changed(chance.schema, other, back_of(change)), one)


class Cost(unittest.TestCase):
    schema = (("t", (("k", ("a", "b")), ("l", ("c", "d")), ("v", ("x", "y", "z")), ("w", ("p", "q"))), 2),)

    def costs(self, before, after, cost):
        key = (before or after)[:2]
        self.assertEqual(cost_of(self.schema, (("t", key, before, after),)), cost)

    def test_comes(self):
        self.costs(None, ("a", "c", "x", "p"), 4)
        self.costs(None, ("a", "c", "y", "p"), 5)
        self.costs(None, ("a", "c", "z", "p"), 5)
        self.costs(None, ("a", "c", "x", "q"), 5)
        self.costs(None, ("a", "c", "z", "q"), 6)
        self.costs(None, ("b", "d", "x", "p"), 4)
        self.costs(None, ("b", "d", "y", "q"), 6)

    def test_goes(self):
        self.costs(("a", "c", "x", "p"), None, 4)
        self.costs(("b", "d", "z", "q"), None, 4)

    def test_stays(self):
        self.costs(("a", "c", "x", "p"), ("a", "c", "y", "p"), 1)
        self.costs(("a", "c", "y", "p"), ("a", "c", "x", "p"), 1)
        self.costs(("a", "c", "y", "p"), ("a", "c", "z", "p"), 1)
        self.costs(("a", "c", "x", "p"), ("a", "c", "y", "q"), 2)
        self.costs(("b", "d", "z", "q"), ("b", "d", "x", "p"), 2)

    def test_together(self):
        self.assertEqual(cost_of(SCHEMA, ()), 0)
        self.assertEqual([cost_of(SCHEMA, (part,)) for part in CHANGE], [1, 3, 2, 2, 2])
        self.assertEqual(cost_of(SCHEMA, CHANGE), 10)
        self.assertEqual(cost_of(SCHEMA, back_of(CHANGE)), 1 + 3 + 2 + 2 + 2)
        self.assertEqual(cost_of(SCHEMA, (("folk", ("cid",), CID, None),)), 3)
        self.assertEqual(cost_of(SCHEMA, (("folk", ("cid",), None, CID),)), 4)

    def test_one_column(self):
        schema = (("t", (("k", ("a", "b")),), 1),)
        self.assertEqual(cost_of(schema, (("t", ("b",), None, ("b",)),)), 1)
        self.assertEqual(cost_of(schema, (("t", ("b",), ("b",), None),)), 1)


if __name__ == "__main__":
    unittest.main()
