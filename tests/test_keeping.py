import copy
import unittest

from lookback.asks import is_ask
from lookback.books import unfolded
from lookback.changes import back_of, changed, is_change
from lookback.errors import Barred, LookError, Never, NoAsk, NoChange, Two
from lookback.keeping import Keeper
from lookback.leading import lead_back
from lookback.rules import broken
from lookback.stands import are_stays
from lookback.telling import told
from chance import Chance
from oracle import all_ways, how_many_fillings
from samples import EMPTY, FILLING, JUNK, Odd, SCHEMA, as_lists, shown, with_junk

OF, TOWN = ("of", "folk"), ("of", "towns")
ANN, BOB, CID = FILLING[0]
COOKS = ("cooks", ("rows", OF, (("is", "job", "cook"),)))
LANDS = ("lands", ("columns", ("join", ("of", "cooks"), TOWN), ("land", "name")))
OTHERS = ("others", ("gap", ("columns", OF, ("name",)), ("columns", ("of", "cooks"), ("name",))))
BOOK = (COOKS, LANDS, OTHERS)
KNOWN = ("known", ("gap", ("columns", OF, ("town",)), ("columns", TOWN, ("town",))))
NOBODY = ("nobody", ("rows", OF, (("is", "name", "zebra"),)))
NODOLE = ("nodole", ("rows", OF, (("is", "town", "bath"), ("is", "job", "none"))))
RULES = (NOBODY, KNOWN, NODOLE)
GOES = (("folk", ("bob",), BOB, None),)
MOVES = (("folk", ("ann",), ANN, ("ann", "york", "cook")),)
BATH_GOES = ("towns", ("bath", "west"), ("bath", "west"), None)
DOLE = ("folk", ("ann",), ANN, ("ann", "bath", "none"))


def state(keeper, words=("folk", "towns", "cooks", "lands", "others")):
    return keeper.filling(), keeper.journal(), tuple(keeper.rows(word) for word in words)


class Kept(unittest.TestCase):
    def keeper(self, filling=FILLING, rules=RULES, book=BOOK):
        return Keeper(SCHEMA, filling, rules, book)

    def refused(self, keeper, error, deed, *args):
        """The error that is refused with, and nothing is changed."""
        before = state(keeper)
        with self.assertRaises(error) as caught:
            deed(*args)
        self.assertIs(caught.exception.__class__, error)
        self.assertEqual(error.__bases__, (LookError,))
        self.assertEqual(state(keeper), before)
        return caught.exception


class Change(Kept):
    def test_at_first(self):
        keeper = self.keeper()
        self.assertEqual(keeper.filling(), FILLING)
        self.assertEqual(keeper.journal(), ())
        self.assertEqual(keeper.rows("folk"), FILLING[0])
        self.assertEqual(keeper.rows("towns"), FILLING[1])
        self.assertEqual(keeper.rows("cooks"), (ANN, CID))
        self.assertEqual(keeper.rows("lands"), (("east", "cid"), ("west", "ann"), ("west", "cid")))
        self.assertEqual(keeper.rows("others"), (("bob",),))

    def test_told_are_the_words_whose_rows_are_others(self):
        keeper = self.keeper()
        self.assertEqual(keeper.change(GOES), {"others": ((("bob",),), ())})
        self.assertEqual(keeper.change(MOVES), {
            "cooks": ((ANN,), (("ann", "york", "cook"),)), "lands": ((), (("east", "ann"),))})
        self.assertEqual(keeper.change((BATH_GOES,)), {})
        self.assertEqual(keeper.change(()), {})
        self.assertEqual(keeper.journal(), (GOES, MOVES, (BATH_GOES,), ()))
        self.assertEqual(keeper.filling(), ((("ann", "york", "cook"), CID), FILLING[1][1:]))
        self.assertEqual(keeper.rows("folk"), (("ann", "york", "cook"), CID))
        self.assertEqual(keeper.rows("others"), ())

    def test_counts_that_are_others_are_no_rows(self):
        book = (("jobs", ("columns", OF, ("job",))),)
        keeper = self.keeper(book=book)
        self.assertEqual(keeper.change((("folk", ("ann",), ANN, None),)), {})
        self.assertEqual(keeper.change((("folk", ("cid",), CID, None),)), {"jobs": ((("cook",),), ())})

    def test_a_new_dict_each_time(self):
        keeper = self.keeper()
        first = keeper.change(GOES)
        first["zebra"] = 1
        first.pop("others")
        self.assertEqual(keeper.rows("others"), ())
        self.assertEqual(keeper.change(back_of(GOES)), {"others": ((), (("bob",),))})
        again = keeper.change(GOES)
        self.assertEqual(again, {"others": ((("bob",),), ())})
        self.assertIsNot(keeper.change(()), keeper.change(()))

    def test_no_change(self):
        keeper = self.keeper()
        for thing in (GOES + GOES, [GOES[0]], GOES[0], (GOES[0][:3],), (BATH_GOES,) + GOES,
                      (("folk", ("bob",), None, BOB),), (("folk", ("bob",), BOB, BOB),),
                      (("cooks", ("bob",), BOB, None),)):
            self.refused(keeper, NoChange, keeper.change, thing)
        for thing in JUNK:
            if not (isinstance(thing, tuple) and len(thing) == 0):
                self.refused(keeper, NoChange, keeper.change, thing)
        change = MOVES + (BATH_GOES,)
        for thing in list(with_junk(change)) + list(as_lists(change)):
            if not is_change(SCHEMA, FILLING, thing):
                with self.assertRaises(NoChange, msg=shown(thing)):
                    keeper.change(thing)
        self.assertEqual(state(keeper), state(self.keeper()))
        keeper.change(GOES)
        self.refused(keeper, NoChange, keeper.change, GOES)

    def test_barred(self):
        keeper = self.keeper()
        for change, rule in (((BATH_GOES,), "known"), ((DOLE,), "nodole"), ((DOLE, BATH_GOES), "known")):
            error = self.refused(keeper, Barred, keeper.change, change)
            self.assertEqual((error.rule, error.way), (rule, None))
        turned = self.keeper(rules=RULES[::-1])
        self.assertEqual(self.refused(turned, Barred, turned.change, (DOLE, BATH_GOES)).rule, "nodole")
        keeper.change(MOVES)
        self.assertEqual(keeper.change((BATH_GOES,)), {})

    def test_no_change_ahead_of_barred(self):
        keeper = self.keeper()
        for thing in ((BATH_GOES, BATH_GOES), [BATH_GOES], (BATH_GOES, DOLE), (BATH_GOES + (1,),)):
            self.refused(keeper, NoChange, keeper.change, thing)

    def test_without_rules_and_without_a_book(self):
        keeper = Keeper(SCHEMA, EMPTY, (), ())
        self.assertEqual(keeper.change((("towns", ("bath", "west"), None, ("bath", "west")),)), {})
        self.assertEqual(keeper.rows("towns"), (("bath", "west"),))


class Ask(Kept):
    def test_done_and_told(self):
        keeper = self.keeper()
        change = keeper.ask("others", (), ((("bob",),), ()))
        self.assertEqual(change, (("folk", ("bob",), BOB, ("bob", "york", "cook")),))
        self.assertEqual(keeper.journal(), (change,))
        self.assertEqual(keeper.rows("others"), ())
        self.assertEqual(keeper.rows("cooks"), (ANN, ("bob", "york", "cook"), CID))
        self.assertEqual(keeper.filling(), changed(SCHEMA, FILLING, change))
        again = keeper.ask("others", (("folk", "job"),), ((), ()))
        self.assertEqual(again, ())
        self.assertEqual(keeper.journal(), (change, ()))
        self.assertEqual(keeper.ask("cooks", (), ((ANN,), ())), (("folk", ("ann",), ANN, ("ann", "york", "none")),))

    def test_stays(self):
        self.assertEqual(self.keeper().ask("others", (("folk", "job"),), ((("bob",),), ())), GOES)
        keeper = self.keeper()
        self.refused(keeper, Never, keeper.ask, "others", (("folk", ""),), ((("bob",),), ()))

    def test_two(self):
        book = BOOK + (("jobs", ("columns", ("of", "folk"), ("job",))), ("same", ("of", "jobs")))
        keeper = self.keeper(filling=((ANN, CID), FILLING[1]), rules=RULES[:2], book=book)
        ask = ((), (("none",),))
        error = self.refused(keeper, Two, keeper.ask, "same", (), ask)
        ways = [(("folk", row[:1], row, row[:2] + ("none",)),) for row in (ANN, CID)]
        self.assertEqual(sorted((error.one, error.other)), ways)
        answer = lead_back(SCHEMA, keeper.filling(), RULES[:2], (), book[3][1], ask)
        self.assertEqual((error.one, error.other), answer[1:3])
        keeper = self.keeper(filling=((ANN, CID), FILLING[1]), book=book)
        self.assertEqual(keeper.ask("same", (), ask), ways[1])

    def test_barred(self):
        keeper = self.keeper()
        ask = ("cooks", (("folk", "town"),), ((ANN,), ()))
        self.assertEqual(self.keeper().ask(*ask), (("folk", ("ann",), ANN, None),))
        gone = ("gone", ("gap", ("columns", TOWN, ("town",)), ("columns", OF, ("town",))))
        keeper = self.keeper(rules=RULES + (gone,))
        error = self.refused(keeper, Barred, keeper.ask, ask[0], ask[1] + (("towns", ""),), ask[2])
        self.assertEqual(error.rule, "gone")
        self.assertEqual(error.way, (("folk", ("ann",), ANN, None),))
        keeper = self.keeper(rules=(gone,) + RULES)
        error = self.refused(keeper, Barred, keeper.ask, ask[0], ask[1] + (("towns", ""),), ask[2])
        self.assertEqual(error.rule, "nodole")
        self.assertEqual(error.way, (DOLE,))

    def test_never(self):
        keeper = self.keeper()
        for ask in (((), (("ann", "bath", "none"),)), ((), (("ann", "york", "cook"),)),
                    ((), (("dan", "york", "cook"),))):
            self.refused(keeper, Never, keeper.ask, "cooks", (), ask)

    def test_no_ask(self):
        keeper = self.keeper()
        right = ("cooks", (), ((ANN,), ()))
        for word in ("folk", "towns", "zebra", "known", "", "cooks ", ("cooks",), ["cooks"], b"cooks") + JUNK:
            self.refused(keeper, NoAsk, keeper.ask, word, *right[1:])
        for stays in ((("folk", "name"),), (("zebra", ""),), (("cooks", ""),), [], ("folk", ""), (("folk", "job"),) * 2,
                      (("folk", "job"), ("folk", "")), [("folk", "")], (["folk", ""],), None, "", Odd(), True):
            self.refused(keeper, NoAsk, keeper.ask, "cooks", stays, right[2])
        for ask in (((BOB,), ()), ((), (ANN,)), ((ANN,), (ANN,)), ((ANN, ANN), ()), ((CID, ANN), ()), ((ANN,),),
                    ((ANN,), (), ()), [(ANN,), ()], ([ANN], ()), (ANN, ()), ((ANN,), []), ((ANN[:2],), ()),
                    ((), (("a",),)),
                    ((), (("A", "b", "c"),)), ((list(ANN),), ())):
            self.refused(keeper, NoAsk, keeper.ask, "cooks", (), ask)
        for thing in JUNK:
            if not are_stays(SCHEMA, thing):
                self.refused(keeper, NoAsk, keeper.ask, "cooks", thing, right[2])
            if not is_ask(SCHEMA, FILLING, COOKS[1], thing):
                self.refused(keeper, NoAsk, keeper.ask, "cooks", (), thing)

    def test_no_ask_ahead_of_all_else(self):
        # Never, barred and two would be the answers, were it an ask.
        keeper = self.keeper(filling=((ANN,), FILLING[1]))
        self.refused(keeper, NoAsk, keeper.ask, "cooks", (("folk", "name"),), ((), (("ann", "bath", "none"),)))
        self.refused(keeper, NoAsk, keeper.ask, "lands", [], ((("west", "ann"),), ()))
        self.refused(keeper, NoAsk, keeper.ask, "folk", (), ((ANN,), ()))

    def test_asks_are_of_the_rows_by_now(self):
        keeper = self.keeper()
        keeper.change((("folk", ("ann",), ANN, None),))
        self.refused(keeper, NoAsk, keeper.ask, "cooks", (), ((ANN,), ()))
        self.assertEqual(keeper.ask("cooks", (), ((), (ANN,))), (("folk", ("ann",), None, ANN),))


class Back(Kept):
    def test_undone_one_by_one(self):
        keeper = self.keeper()
        states = [state(keeper)]
        keeper.change(GOES)
        states.append(state(keeper))
        keeper.change(())
        states.append(state(keeper))
        asked = keeper.ask("lands", (("towns", ""),), ((("west", "ann"),), ()))
        states.append(state(keeper))
        keeper.ask("others", (), ((), ()))
        for change in ((), asked, (), GOES):
            self.assertEqual(keeper.back(), change)
            self.assertEqual(state(keeper), states.pop())
        self.refused(keeper, NoChange, keeper.back)
        self.assertEqual(keeper.filling(), FILLING)
        self.assertEqual(keeper.change(GOES), {"others": ((("bob",),), ())})
        self.assertEqual(keeper.journal(), (GOES,))

    def test_none_at_first(self):
        keeper = self.keeper()
        self.refused(keeper, NoChange, keeper.back)
        self.refused(keeper, Barred, keeper.change, (BATH_GOES,))
        self.refused(keeper, NoChange, keeper.back)

    def test_two_keepers(self):
        args = copy.deepcopy((SCHEMA, FILLING, RULES, BOOK))
        one, other = Keeper(*args), Keeper(*args)
        one.change(GOES)
        self.assertEqual(state(other), state(self.keeper()))
        other.change(MOVES)
        self.assertEqual(one.journal(), (GOES,))
        self.assertEqual(other.journal(), (MOVES,))
        one.back()
        self.refused(one, NoChange, one.back)
        self.assertEqual(other.back(), MOVES)
        self.assertEqual(args, (SCHEMA, FILLING, RULES, BOOK))


class Many(unittest.TestCase):
    """Keepers of many sheets against all ways and looks told anew."""

    def same(self, keeper, schema, filling, looks, journal):
        self.assertEqual(keeper.filling(), filling)
        self.assertEqual(keeper.journal(), tuple(journal))
        for word, look in looks.items():
            self.assertEqual(keeper.rows(word), told(schema, filling, look))
        for (name, columns, keys), rows in zip(schema, filling):
            self.assertEqual(keeper.rows(name), rows)

    def asked(self, keeper, case, word):
        """What comes of an ask, by the name of the refusal, or the change; checked against all ways."""
        schema, filling, rules, stays, look, ask = case
        ahead = [all_ways(schema, filling, rules[:many], stays, look, ask) for many in range(len(rules) + 1)]
        least = [change for cost, change in ahead[-1] if cost == ahead[-1][0][0]]
        try:
            change = keeper.ask(word, stays, ask)
        except Two as two:
            self.assertGreater(len(least), 1)
            self.assertTrue(two.one in least and two.other in least and two.one != two.other)
            return "two"
        except Barred as barred:
            many = [len(ways) for ways in ahead].index(0)
            self.assertEqual(barred.rule, rules[many - 1][0])
            self.assertIn(barred.way, [way for cost, way in ahead[many - 1]])
            return "barred"
        except Never:
            self.assertEqual(ahead[0], [])
            return "never"
        self.assertEqual([change], least)
        return change

    def test_many(self):
        kinds = {}
        for seed in range(1600):
            chance = Chance(seed)
            if how_many_fillings(chance.schema) > 300:
                continue
            filling = first = chance.filling()
            rules = chance.rules(filling, seed % 5)
            book = chance.book(seed % 3 + 1, 4)
            looks = {word: unfolded(book, look) for word, look in book}
            keeper = Keeper(chance.schema, filling, rules, book)
            journal = []
            for step in range(3):
                word = book[-1 - step % len(book)][0]
                look = looks[word]
                ask = chance.ask(told(chance.schema, filling, look), told(chance.schema, chance.filling(), look))
                case = (chance.schema, filling, rules, chance.stays(0.05 * step), look, ask)
                change = self.asked(keeper, case, word)
                kind = change if isinstance(change, str) else "way"
                kinds[kind] = kinds.get(kind, 0) + 1
                if isinstance(change, tuple):
                    journal.append(change)
                    filling = changed(chance.schema, filling, change)
                self.same(keeper, chance.schema, filling, looks, journal)
                filling = self.changed(keeper, chance, rules, looks, journal, kinds)
            while journal:
                self.assertEqual(keeper.back(), journal[-1])
                filling = changed(chance.schema, filling, back_of(journal.pop()))
                self.same(keeper, chance.schema, filling, looks, journal)
            self.assertEqual(filling, first)
        self.assertEqual(sorted(kinds), ["barred", "changed", "never", "stopped", "two", "way"])
        self.assertGreater(min(kinds.values()), 9)

    def changed(self, keeper, chance, rules, looks, journal, kinds):
        """The filling behind a change by chance, which may be barred."""
        filling = keeper.filling()
        change = chance.change(filling)
        behind = changed(chance.schema, filling, change)
        rule = broken(chance.schema, behind, rules)
        if rule is not None:
            with self.assertRaises(Barred) as caught:
                keeper.change(change)
            self.assertEqual((caught.exception.rule, caught.exception.way), (rule, None))
            kinds["stopped"] = kinds.get("stopped", 0) + 1
            behind = filling
        else:
            rows = {word: (told(chance.schema, filling, look), told(chance.schema, behind, look))
                    for word, look in looks.items()}
            wanted = {word: (tuple(row for row in old if row not in new), tuple(row for row in new if row not in old))
                      for word, (old, new) in rows.items() if old != new}
            self.assertEqual(keeper.change(change), wanted)
            journal.append(change)
            kinds["changed"] = kinds.get("changed", 0) + 1
        self.same(keeper, chance.schema, behind, looks, journal)
        return behind


if __name__ == "__main__":
    unittest.main()
