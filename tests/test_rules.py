import unittest

from lookback.rules import are_rules, broken
from samples import EMPTY, FILLING, JUNK, NO_WORDS, SCHEMA, as_lists, shown, with_junk

OF = ("of", "folk")
BATH_COOKS = ("rows", OF, (("is", "town", "bath"), ("is", "job", "cook")))
NO_TOWN = ("gap", ("columns", OF, ("town",)), ("columns", ("of", "towns"), ("town",)))
DANS = ("rows", OF, (("is", "name", "dan"),))
RULES = (("towns", NO_TOWN), ("dans", DANS), ("cooks", BATH_COOKS), ("any", OF))


class AreRules(unittest.TestCase):
    def yes(self, thing):
        self.assertIs(are_rules(SCHEMA, thing), True, shown(thing))

    def no(self, thing):
        self.assertIs(are_rules(SCHEMA, thing), False, shown(thing))

    def test_none_to_six(self):
        for many in range(7):
            self.yes(tuple((f"r{k}", OF) for k in range(many)))
        self.yes(RULES)

    def test_seven(self):
        self.no(tuple((f"r{k}", OF) for k in range(7)))

    def test_words_need_not_rise_but_are_unlike(self):
        self.yes((("b", OF), ("a", OF)))
        self.no((("a", OF), ("a", OF)))
        self.no((("a", OF), ("a", DANS)))
        self.no((("a", OF), ("b", OF), ("a", DANS)))
        self.yes((("folk", OF), ("of", OF)))

    def test_no_words(self):
        for word in NO_WORDS:
            self.no(((word, OF),))

    def test_no_looks(self):
        for look in (("of", "cats"), ("of",), "folk", ("rows", OF, ()), ("columns", OF, ("land",)),
                     ("union", OF, ("of", "towns")), RULES[0]):
            self.no((("a", look),))
            self.no((("a", OF), ("b", look)))
        deep = OF
        for depth in range(1, 12):
            self.assertIs(are_rules(SCHEMA, (("a", deep),)), depth <= 8)
            deep = ("gap", deep, OF)

    def test_parts_more_and_fewer(self):
        for rule in RULES:
            self.no(rule)
            self.no((rule[:1],))
            self.no((rule[1:],))
            self.no((rule + (OF,),))
            self.no((rule[::-1],))
            self.no(((),))
            self.no(((rule,),))

    def test_lists(self):
        for thing in as_lists(RULES):
            self.no(thing)
        self.no([])

    def test_anything(self):
        for thing in JUNK:
            if not (isinstance(thing, tuple) and len(thing) == 0):
                self.no(thing)

        def is_right(part, junk):
            return part == RULES and isinstance(junk, tuple) and len(junk) == 0

        for thing in with_junk(RULES, is_right):
            self.no(thing)


class Broken(unittest.TestCase):
    def test_all_hold(self):
        self.assertIsNone(broken(SCHEMA, FILLING, ()))
        self.assertIsNone(broken(SCHEMA, FILLING, RULES[:2]))
        self.assertIsNone(broken(SCHEMA, EMPTY, RULES))

    def test_the_first_in_their_order(self):
        self.assertEqual(broken(SCHEMA, FILLING, RULES), "cooks")
        self.assertEqual(broken(SCHEMA, FILLING, RULES[::-1]), "any")
        self.assertEqual(broken(SCHEMA, (FILLING[0], ()), RULES), "towns")
        self.assertEqual(broken(SCHEMA, (FILLING[0], ()), RULES[1:]), "cooks")
        self.assertEqual(broken(SCHEMA, (FILLING[0][1:], FILLING[1]), RULES), "any")
        self.assertEqual(broken(SCHEMA, FILLING, (("b", OF), ("a", OF))), "b")

    def test_told_again(self):
        for step in range(2):
            self.assertEqual(broken(SCHEMA, FILLING, RULES), "cooks")


if __name__ == "__main__":
    unittest.main()
