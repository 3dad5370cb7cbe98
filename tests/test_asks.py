import unittest

from lookback.asks import is_ask, is_way
from lookback.leading import lead_back
from samples import EMPTY, FILLING, JUNK, NO_WORDS, SCHEMA, as_lists, shown, with_junk

OF = ("of", "folk")
TOWNS = ("columns", OF, ("town", "job"))
ANN, BOB, CID = FILLING[0]
DAN, EVE = ("dan", "rome", "cook"), ("eve", "york", "king")
ASK = ((ANN, CID), (DAN, EVE))


class IsAsk(unittest.TestCase):
    def yes(self, thing, look=OF, filling=FILLING):
        self.assertIs(is_ask(SCHEMA, filling, look, thing), True, shown(thing))

    def no(self, thing, look=OF, filling=FILLING):
        self.assertIs(is_ask(SCHEMA, filling, look, thing), False, shown(thing))

    def test_nothing_asked(self):
        self.yes(((), ()))
        self.yes(((), ()), filling=EMPTY)
        self.yes(((), ()), look=("gap", OF, OF))

    def test_drops_and_comes(self):
        self.yes(ASK)
        self.yes(((ANN,), ()))
        self.yes((FILLING[0], ()))
        self.yes(((), (("ann", "bath", "none"),)))
        self.yes(((ANN,), (("ann", "bath", "none"),)))
        self.yes(((), FILLING[0]), filling=EMPTY)

    def test_comes_with_words_that_no_table_has(self):
        self.yes(((), (DAN,)))
        self.yes(((), (("12345678", "0", "z"),)))
        self.yes(((), (("zebra", "zebra"),)), look=TOWNS)

    def test_columns_are_those_of_the_look(self):
        self.yes(((("bath", "cook"),), (("bath", "none"),)), look=TOWNS)
        self.no(((ANN,), ()), look=TOWNS)
        self.no(((), (DAN,)), look=TOWNS)
        self.no(((), (("bath", "none"),)))

    def test_drops_that_are_not_there(self):
        self.no(((("ann", "bath", "none"),), ()))
        self.no(((ANN, DAN), ()))
        self.no(((ANN,), ()), filling=EMPTY)
        self.no(((ANN,), ()), look=("gap", OF, OF))

    def test_comes_that_are_there(self):
        self.no(((), (ANN,)))
        self.no(((), (BOB, DAN)))
        self.no(((ANN,), (ANN,)))

    def test_not_rising_or_twice(self):
        self.no(((CID, ANN), ()))
        self.no(((ANN, ANN), ()))
        self.no(((), (EVE, DAN)))
        self.no(((), (DAN, DAN)))

    def test_too_long_or_too_short(self):
        self.no(((), (DAN[:2],)))
        self.no(((), (DAN + ("x",),)))
        self.no(((), ((),)))
        self.no(((ANN[:2],), ()))

    def test_no_words(self):
        for word in NO_WORDS:
            self.no(((), (("dan", word, "cook"),)))
            self.no(((), (DAN, (word, "york", "king"))))

    def test_parts_more_and_fewer(self):
        self.no(())
        self.no(((),))
        self.no(((), (), ()))
        self.no(ASK[0])
        self.no((ASK,))
        self.no(ASK + ((),))
        self.no((ANN, DAN))

    def test_lists(self):
        for thing in as_lists(ASK):
            self.no(thing)
        for thing in as_lists(((), ())):
            self.no(thing)

    def test_anything(self):
        for thing in JUNK:
            self.no(thing)

        def is_right(part, junk):
            return part in ASK and isinstance(junk, tuple) and len(junk) == 0

        for thing in with_junk(ASK, is_right):
            self.no(thing)


class IsWay(unittest.TestCase):
    LOOK = ("rows", OF, (("is", "town", "bath"),))
    ASK = ((ANN,), (("bob", "bath", "cook"),))
    WAY = (("folk", ("ann",), ANN, ("ann", "york", "cook")), ("folk", ("bob",), BOB, ("bob", "bath", "cook")))
    RULES = (("nocooks", ("rows", OF, (("is", "town", "york"), ("is", "name", "ann"), ("is", "job", "none")))),
             ("nobob", ("rows", OF, (("is", "town", "bath"), ("is", "name", "bob"), ("is", "job", "none")))))

    def tells(self, truth, thing, rules=(), stays=(), ask=ASK, look=LOOK):
        self.assertIs(is_way(SCHEMA, FILLING, rules, stays, look, ask, thing), truth, shown(thing))

    def test_the_told_way(self):
        self.assertEqual(lead_back(SCHEMA, FILLING, self.RULES, (), self.LOOK, self.ASK)[:2], ("way", self.WAY))
        self.tells(True, self.WAY)
        self.tells(True, self.WAY, rules=self.RULES)
        self.tells(True, (), ask=((), ()))

    def test_a_row_left_out(self):
        self.tells(False, self.WAY[:1])
        self.tells(False, self.WAY[1:])
        self.tells(False, ())

    def test_a_row_more(self):
        more = ("folk", ("cid",), CID, ("cid", "bath", "cook"))
        self.tells(False, self.WAY + (more,))
        # What is not seen by the look makes a way that isn't the least one.
        unseen = ("folk", ("cid",), CID, None)
        self.tells(True, self.WAY + (unseen,))

    def test_other_cells(self):
        self.tells(True, (("folk", ("ann",), ANN, None),) + self.WAY[1:])
        self.tells(True, (("folk", ("ann",), ANN, ("ann", "york", "none")),) + self.WAY[1:])
        self.tells(False, (("folk", ("ann",), ANN, ("ann", "bath", "none")),) + self.WAY[1:])
        self.tells(False, self.WAY[:1] + (("folk", ("bob",), BOB, ("bob", "bath", "none")),))

    def test_stays(self):
        self.tells(False, self.WAY, stays=(("folk", "town"),))
        self.tells(False, self.WAY, stays=(("folk", ""),))
        self.tells(False, self.WAY, stays=(("folk", "job"),))
        self.tells(True, self.WAY, stays=(("towns", ""),))
        gone = (("folk", ("ann",), ANN, None),)
        self.tells(True, gone, stays=(("folk", "job"), ("folk", "town")), ask=((ANN,), ()))
        self.tells(False, gone, stays=(("folk", ""), ("folk", "job")), ask=((ANN,), ()))

    def test_rules(self):
        other = (("folk", ("ann",), ANN, ("ann", "york", "none")),) + self.WAY[1:]
        self.tells(True, other)
        self.tells(False, other, rules=self.RULES)
        self.tells(False, other, rules=self.RULES[::-1])
        self.tells(False, other, rules=self.RULES[:1])
        self.tells(True, other, rules=self.RULES[1:])

    def test_no_change(self):
        for thing in (self.WAY[::-1], self.WAY[:1] * 2, (("folk", ("ann",), BOB, None),), self.WAY[0]):
            self.tells(False, thing)
        for thing in as_lists(self.WAY):
            self.tells(False, thing)

    def test_anything(self):
        for thing in JUNK:
            self.tells(False, thing)

        def is_right(part, junk):
            return part == self.WAY[0][3] and junk is None

        for thing in with_junk(self.WAY, is_right):
            self.tells(False, thing)


if __name__ == "__main__":
    unittest.main()
