import unittest

from lookback.plain import are_unlike, found_again, is_rising, is_same, is_tuple, is_tuple_of_words
from lookback.plain import is_whole, is_word, product
from samples import JUNK, NO_WORDS, shown


class Plain(unittest.TestCase):
    def test_words(self):
        for word in ("a", "z", "0", "9", "az09", "12345678", "abcdefgh"):
            self.assertIs(is_word(word), True, word)
        for thing in JUNK + NO_WORDS + ("123456789", "`", "{", "/", ":"):
            self.assertIs(is_word(thing), False, shown(thing))

    def test_every_sign_from_blank_to_tilde(self):
        for code in list(range(32, 127)) + [10]:
            sign = chr(code)
            expected = "a" <= sign <= "z" or "0" <= sign <= "9"
            self.assertIs(is_word(sign), expected, sign)
            self.assertIs(is_word("a" + sign), expected, sign)

    def test_whole_numbers(self):
        for number in (0, 1, -1, 10 ** 30):
            self.assertIs(is_whole(number), True)
        for thing in (True, False, None, "1", b"1", (1,), [1]):
            self.assertIs(is_whole(thing), False)

    def test_tuples(self):
        self.assertIs(is_tuple((), 0, 0), True)
        self.assertIs(is_tuple((1, 2), 1, 2), True)
        self.assertIs(is_tuple((1, 2), 3, 3), False)
        self.assertIs(is_tuple((1, 2), 0, 1), False)
        self.assertIs(is_tuple([1, 2], 1, 2), False)

    def test_tuples_of_words(self):
        for thing in ((), ("a",), ("a", "a", "b9")):
            self.assertIs(is_tuple_of_words(thing), True)
        for thing in (["a"], "a", ("a", "B"), ("a", None), (("a",),), (True,)):
            self.assertIs(is_tuple_of_words(thing), False)

    def test_same(self):
        plain = ("a", 1, ("b", (), 0))
        self.assertIs(is_same(("a", 1, ("b", (), 0)), plain), True)
        for thing in (("a", True, ("b", (), 0)), ("a", 1, ("b", (), False)), ["a", 1, ("b", (), 0)],
                      ("a", 1, ["b", (), 0]), ("a", 1, ("b", [], 0)), ("a", 1), plain + (1,), ("a", "1", plain[2]),
                      ("b", 1, plain[2]), ("a", 2, plain[2]), (b"a", 1, plain[2]), ("a", 1, ("b", (), None))):
            self.assertIs(is_same(thing, plain), False, thing)
        for thing in JUNK:
            self.assertIs(is_same(thing, plain), False, shown(thing))
            self.assertIs(is_same(thing, "of"), False, shown(thing))

    def test_rising_and_unlike(self):
        self.assertIs(is_rising(()), True)
        self.assertIs(is_rising(("a", "ab", "b")), True)
        self.assertIs(is_rising((("a", "b"), ("a", "c"), ("b", "a"))), True)
        self.assertIs(is_rising(("a", "a")), False)
        self.assertIs(is_rising(("b", "a")), False)
        self.assertIs(is_rising(("a", "c", "b")), False)
        self.assertIs(are_unlike(("b", "a")), True)
        self.assertIs(are_unlike(("b", "a", "b")), False)

    def test_found_again(self):
        one, other = ("union", ("of", "a"), ("of", "b")), ("union", ("of", "a"), ("of", "c"))
        self.assertIsNone(found_again([], one))
        self.assertIsNone(found_again([(one, 1)], other))
        self.assertEqual(found_again([(one, 1), (other, 2)], ("union", ("of", "a"), ("of", "c"))), 2)

    def test_product(self):
        self.assertEqual(product([]), [()])
        self.assertEqual(product([["a", "b"], ["c"]]), [("a", "c"), ("b", "c")])
        self.assertEqual(product([["a"], []]), [])


if __name__ == "__main__":
    unittest.main()
