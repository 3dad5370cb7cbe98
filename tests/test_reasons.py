import copy
import unittest

from lookback.books import unfolded
from lookback.errors import LookError, NoReason
from lookback.reasons import reason_of, shows_reason, used_by
from lookback.sources import sources
from lookback.telling import told
from chance import Chance, records, table_records
from samples import EMPTY, FILLING, JUNK, Odd, SCHEMA, as_lists, replaced, shown, with_junk

OF, TOWN = ("of", "folk"), ("of", "towns")
ANN, BOB, CID = FILLING[0]
IS_ANN = ("rows", OF, (("is", "name", "ann"),))
JOBS = ("columns", OF, ("job",))
PLACES = ("columns", OF, ("town",))
FOLK_ANN, FOLK_BOB, FOLK_CID = [("of", "folk", row) for row in FILLING[0]]


def town(name, land):
    return ("of", "towns", (name, land))


def is_right(schema, filling, look, record, columns, reason):
    """Whether a tuple made as a reason is one of a record, as the document words it, by records alone."""
    if record not in records(schema, filling, look) or reason[0] != look[0]:
        return False
    if look[0] == "of":
        named = dict(zip(columns, reason[2]))
        return reason[1] == look[1] and named == record and named in table_records(schema, filling, look[1])
    if look[0] == "join":
        parts = [{name: record[name] for name in names_of(schema, part)} for part in look[1:]]
        return all(is_right(schema, filling, part, inner, names_of(schema, part), within)
                   for part, inner, within in zip(look[1:], parts, reason[1:]))
    part = look[2] if look[:1] + reason[1:2] == ("union", 1) else look[1]
    names = names_of(schema, part)
    if look[0] == "columns":
        inner = dict(zip(names, reason[1]))
        if {name: inner[name] for name in look[2]} != record:
            return False
    else:
        inner = dict(zip(names, record.values()))
    return is_right(schema, filling, part, inner, names, reason[-1])


def names_of(schema, look):
    """The columns of a look, in order."""
    if look[0] == "of":
        return [column for name, columns, keys in schema if name == look[1] for column, values in columns]
    if look[0] == "columns":
        return list(look[2])
    names = names_of(schema, look[1])
    if look[0] == "called":
        return [dict(look[2]).get(name, name) for name in names]
    more = names_of(schema, look[2]) if look[0] == "join" else []
    return names + [name for name in more if name not in names]


def is_one(part, junk):
    return part.__class__ is int and junk.__class__ is int and part == junk


class Shown(unittest.TestCase):
    def yes(self, look, row, reason, filling=FILLING):
        self.assertIs(shows_reason(SCHEMA, filling, look, row, reason), True, shown(reason))

    def no(self, look, row, reason, filling=FILLING):
        self.assertIs(shows_reason(SCHEMA, filling, look, row, reason), False, shown(reason))

    def only(self, look, row, reason):
        self.yes(look, row, reason)
        self.assertEqual(reason_of(SCHEMA, FILLING, look, row), reason)

    def several(self, look, row, *reasons):
        for reason in reasons:
            self.yes(look, row, reason)
        self.assertIn(reason_of(SCHEMA, FILLING, look, row), reasons)


class ReasonOf(Shown):
    def test_of(self):
        self.only(OF, ANN, FOLK_ANN)
        self.only(TOWN, ("york", "east"), town("york", "east"))

    def test_rows_and_called(self):
        self.only(IS_ANN, ANN, ("rows", FOLK_ANN))
        turned = ("called", OF, (("town", "job"), ("job", "town")))
        self.only(turned, BOB, ("called", FOLK_BOB))
        self.only(("rows", turned, (("is", "job", "york"),)), BOB, ("rows", ("called", FOLK_BOB)))

    def test_columns(self):
        self.only(PLACES, ("bath",), ("columns", ANN, FOLK_ANN))
        self.several(PLACES, ("york",), ("columns", BOB, FOLK_BOB), ("columns", CID, FOLK_CID))
        self.only(("columns", OF, ("job", "name")), ("cook", "cid"), ("columns", CID, FOLK_CID))

    def test_join(self):
        self.only(("join", OF, TOWN), ANN + ("west",), ("join", FOLK_ANN, town("bath", "west")))
        self.only(("join", TOWN, OF), ("bath", "west", "ann", "cook"), ("join", town("bath", "west"), FOLK_ANN))
        self.only(("join", OF, OF), ANN, ("join", FOLK_ANN, FOLK_ANN))
        apart = [("join", ("columns", one, one_of), ("columns", other, other_of))
                 for one, one_of in ((ANN, FOLK_ANN), (CID, FOLK_CID))
                 for other, other_of in ((BOB, FOLK_BOB), (CID, FOLK_CID))]
        self.several(("join", JOBS, PLACES), ("cook", "york"), *apart)

    def test_union(self):
        self.several(("union", OF, IS_ANN), ANN, ("union", 0, FOLK_ANN), ("union", 1, ("rows", FOLK_ANN)))
        self.only(("union", OF, IS_ANN), BOB, ("union", 0, FOLK_BOB))
        self.only(("union", IS_ANN, OF), BOB, ("union", 1, FOLK_BOB))

    def test_gap(self):
        self.only(("gap", OF, IS_ANN), BOB, ("gap", FOLK_BOB))
        self.only(("gap", OF, ("gap", OF, IS_ANN)), ANN, ("gap", FOLK_ANN))

    def test_looks_of_looks(self):
        book = (("cooks", ("rows", OF, (("is", "job", "cook"),))),
                ("lands", ("columns", ("join", ("of", "cooks"), TOWN), ("land", "name"))),
                ("west", ("gap", ("columns", ("of", "lands"), ("name",)), ("columns", IS_ANN, ("name",)))))
        look = unfolded(book, ("of", "west"))
        rows = [("cid", "york", "cook", land) for land in ("east", "west")]
        self.several(look, ("cid",), *[
            ("gap", ("columns", (row[3], "cid"), ("columns", row, ("join", ("rows", FOLK_CID), town(*row[1::2])))))
            for row in rows])
        with self.assertRaises(NoReason):
            reason_of(SCHEMA, FILLING, look, ("ann",))

    def test_deeper_than_eight(self):
        look, reason = PLACES, ("columns", BOB, FOLK_BOB)
        for step in range(18):
            look = ("columns", ("rows", ("union", PLACES, look), (("is", "town", "york"),)), ("town",))
            reason = ("columns", ("york",), ("rows", ("union", 1, reason)))
        self.yes(look, ("york",), reason)
        self.yes(look, ("york",), reason_of(SCHEMA, FILLING, look, ("york",)))
        self.assertEqual(used_by(reason), (("folk", BOB),))

    def test_no_reason(self):
        looks = (OF, IS_ANN, PLACES, ("called", OF, (("name", "who"),)), ("join", OF, TOWN), ("union", OF, IS_ANN),
                 ("gap", OF, IS_ANN))
        for look in looks:
            for row in ((), ("zebra",), ("ann", "york", "cook"), ANN[:2], ANN + ("east",), ANN + ("west", "west"),
                        BOB[::-1], ("york", "none", "cook", "west")):
                with self.assertRaises(NoReason) as caught:
                    reason_of(SCHEMA, FILLING, look, row)
                self.assertEqual(caught.exception.__class__.__bases__, (LookError,))
                for reason in (FOLK_ANN, ("rows", FOLK_ANN), ("join", FOLK_ANN, FOLK_ANN), ("union", 0, FOLK_ANN)):
                    self.no(look, row, reason)
            for row in told(SCHEMA, FILLING, look):
                with self.assertRaises(NoReason):
                    reason_of(SCHEMA, EMPTY, look, row)
        for look, row in ((IS_ANN, BOB), (("gap", OF, IS_ANN), ANN), (("gap", OF, OF), ANN)):
            with self.assertRaises(NoReason):
                reason_of(SCHEMA, FILLING, look, row)

    def test_many(self):
        forms = {}
        for seed in range(1500):
            chance = Chance(seed)
            filling = chance.filling()
            look, columns = chance.look(seed % 6 + 1)
            rows = told(chance.schema, filling, look)
            for row in rows[:3]:
                reason = reason_of(chance.schema, filling, look, row)
                self.assertIs(shows_reason(chance.schema, filling, look, row, reason), True)
                record = dict(zip(columns, row))
                self.assertTrue(is_right(chance.schema, filling, look, record, columns, reason))
                for other in rows:
                    if other != row:
                        self.assertIs(shows_reason(chance.schema, filling, look, other, reason), False)
                forms[look[0]] = forms.get(look[0], 0) + 1
        self.assertEqual(len(forms), 7)
        self.assertGreater(min(forms.values()), 40)

    def test_what_is_used_makes_the_row(self):
        # Without gaps some source is among what a reason uses.
        many = 0
        for seed in range(1500):
            chance = Chance(seed)
            filling = chance.filling()
            look, columns = chance.look(seed % 4 + 2)
            if "gap" in str(look):
                continue
            for row in told(chance.schema, filling, look)[:2]:
                pairs = used_by(reason_of(chance.schema, filling, look, row))
                self.assertTrue(any(set(source) <= set(pairs)
                                    for source in sources(chance.schema, filling, look, row)))
                many += len(pairs) > 1
        self.assertGreater(many, 50)


class ShowsReason(Shown):
    JOIN = ("join", OF, TOWN)
    CASES = (
        (OF, ANN, FOLK_ANN),
        (IS_ANN, ANN, ("rows", FOLK_ANN)),
        (("called", OF, (("name", "who"),)), ANN, ("called", FOLK_ANN)),
        (PLACES, ("york",), ("columns", BOB, FOLK_BOB)),
        (JOIN, ANN + ("west",), ("join", FOLK_ANN, town("bath", "west"))),
        (("union", OF, IS_ANN), ANN, ("union", 1, ("rows", FOLK_ANN))),
        (("gap", OF, IS_ANN), BOB, ("gap", FOLK_BOB)),
        (("columns", ("gap", JOIN, JOIN[:1] + (IS_ANN, TOWN)), ("land",)), ("west",),
         ("columns", BOB + ("west",), ("gap", ("join", FOLK_BOB, town("york", "west"))))),
    )

    def test_another_word(self):
        words = ("of", "rows", "called", "columns", "join", "union", "gap", "folk", "towns", "")
        for look, row, reason in self.CASES:
            self.yes(look, row, reason)
            for other in replaced(reason, lambda part: [
                    word for word in words if isinstance(part, str) and word != part]):
                self.no(look, row, other)

    def test_another_row(self):
        rows = FILLING[0] + FILLING[1] + (("york",), ("bath",), ANN + ("west",), BOB + ("west",), BOB + ("east",), ())
        for look, row, reason in self.CASES:
            for other in replaced(reason, lambda part: [row for row in rows if part in rows and row != part]):
                self.no(look, row, other)
            for other in rows:
                if other != row:
                    self.no(look, other, reason)

    def test_another_k(self):
        look = ("union", OF, IS_ANN)
        for side in (0, 2, -1, True, "1", None, (1,)):
            self.no(look, ANN, ("union", side, ("rows", FOLK_ANN)))
        for side in (1, 2, -1, False, "0", None):
            self.no(look, ANN, ("union", side, FOLK_ANN))
            self.no(("union", OF, OF), ANN, ("union", 2, FOLK_ANN))
        self.yes(("union", OF, OF), ANN, ("union", 0, FOLK_ANN))
        self.yes(("union", OF, OF), ANN, ("union", 1, FOLK_ANN))
        self.no(("union", OF, OF), ANN, ("union", True, FOLK_ANN))
        self.no(("union", OF, OF), ANN, ("union", False, FOLK_ANN))
        self.no(look, BOB, ("union", 1, ("rows", FOLK_BOB)))

    def test_a_part_more_or_fewer(self):
        for look, row, reason in self.CASES:
            for other in replaced(reason, lambda part: [part[:-1], part[1:], part + part[-1:], part + (None,), ()]
                                  if isinstance(part, tuple) else []):
                self.no(look, row, other)

    def test_a_gap_whose_other_tells_the_row(self):
        self.no(("gap", OF, IS_ANN), ANN, ("gap", FOLK_ANN))
        self.no(("gap", OF, OF), ANN, ("gap", FOLK_ANN))
        self.no(("columns", ("gap", OF, IS_ANN), ("job",)), ("cook",), ("columns", ANN, ("gap", FOLK_ANN)))
        self.yes(("columns", ("gap", OF, IS_ANN), ("job",)), ("cook",), ("columns", CID, ("gap", FOLK_CID)))
        self.no(("union", ("gap", OF, IS_ANN), OF), ANN, ("union", 0, ("gap", FOLK_ANN)))
        self.yes(("union", ("gap", OF, IS_ANN), OF), ANN, ("union", 1, FOLK_ANN))

    def test_a_test_that_a_row_does_not_meet(self):
        self.no(IS_ANN, BOB, ("rows", FOLK_BOB))
        self.no(("union", OF, IS_ANN), BOB, ("union", 1, ("rows", FOLK_BOB)))
        self.no(("columns", IS_ANN, ("job",)), ("cook",), ("columns", CID, ("rows", FOLK_CID)))

    def test_turned_about(self):
        row = ANN + ("west",)
        self.no(self.JOIN, row, ("join", town("bath", "west"), FOLK_ANN))
        self.no(("join", TOWN, OF), ("bath", "west", "ann", "cook"), ("join", FOLK_ANN, town("bath", "west")))
        self.no(("join", JOBS, PLACES), ("cook", "york"),
                ("join", ("columns", BOB, FOLK_BOB), ("columns", ANN, FOLK_ANN)))

    def test_a_row_that_is_not_of_the_tables(self):
        dan = ("bob", "bath", "cook")
        for filling in (FILLING, EMPTY):
            self.no(OF, dan, ("of", "folk", dan), filling)
            self.no(PLACES, ("bath",), ("columns", dan, ("of", "folk", dan)), filling)
        for look, row, reason in self.CASES:
            self.no(look, row, reason, EMPTY)

    def test_of_anything(self):
        for look, row, reason in self.CASES:
            for thing in list(with_junk(reason, is_one)) + list(as_lists(reason)):
                self.no(look, row, thing)
            for thing in JUNK + (Odd(), list(row)):
                self.no(look, thing, reason)

    def test_nothing_is_changed_and_asked_again_the_same(self):
        for look, row, reason in self.CASES:
            args = (SCHEMA, FILLING, look, row)
            before = copy.deepcopy(args)
            self.assertEqual(reason_of(*args), reason_of(*args))
            self.assertEqual(args, before)


class UsedBy(unittest.TestCase):
    def test_each_once_and_rising(self):
        for reason, pairs in (
                (FOLK_ANN, (("folk", ANN),)),
                (("rows", ("called", ("gap", FOLK_BOB))), (("folk", BOB),)),
                (("columns", ANN, FOLK_ANN), (("folk", ANN),)),
                (("columns", ("of", "rows", "join"), FOLK_ANN), (("folk", ANN),)),
                (("union", 0, FOLK_ANN), (("folk", ANN),)),
                (("union", 1, FOLK_ANN), (("folk", ANN),)),
                (("join", FOLK_ANN, FOLK_ANN), (("folk", ANN),)),
                (("join", town("bath", "west"), FOLK_ANN), (("folk", ANN), ("towns", ("bath", "west")))),
                (("join", ("join", FOLK_CID, FOLK_ANN), ("columns", CID, FOLK_CID)), (("folk", ANN), ("folk", CID)))):
            self.assertEqual(used_by(reason), pairs)
            self.assertIsInstance(used_by(reason), tuple)

    def test_of_what_reason_of_tells(self):
        look = ("join", ("columns", OF, ("town",)), TOWN)
        self.assertEqual(used_by(reason_of(SCHEMA, FILLING, look, ("bath", "west"))),
                         (("folk", ANN), ("towns", ("bath", "west"))))


if __name__ == "__main__":
    unittest.main()
