import copy
import unittest

from lookback.asks import is_way
from lookback.books import is_book, unfolded
from lookback.counting import counts
from lookback.keeping import Keeper
from lookback.leading import lead_back
from lookback.looks import columns_of, is_look
from lookback.papers import shows_two, shows_way
from lookback.telling import told
from chance import Chance, depth_of, records
from samples import FILLING, JUNK, NO_WORDS, SCHEMA, as_lists, shown, with_junk
from test_looks import SEVEN, paired_deep, rows_deep

OF, TOWN = ("of", "folk"), ("of", "towns")
ANN, BOB, CID = FILLING[0]
COOKS = ("cooks", ("rows", OF, (("is", "job", "cook"),)))
LANDS = ("lands", ("columns", ("join", ("of", "cooks"), TOWN), ("land", "name")))
OTHERS = ("others", ("gap", ("columns", OF, ("name",)), ("columns", ("of", "lands"), ("name",))))
BOOK = (COOKS, LANDS, OTHERS)


class IsBook(unittest.TestCase):
    def yes(self, thing):
        self.assertIs(is_book(SCHEMA, thing), True, shown(thing))

    def no(self, thing):
        self.assertIs(is_book(SCHEMA, thing), False, shown(thing))

    def test_none_to_eight(self):
        words = ("a", "b", "12345678", "d", "0", "f", "g", "h", "i")
        for many in range(9):
            self.yes(tuple((word, OF) for word in words[:many]))
            self.yes(tuple((word, ("of", words[at - 1]) if at else OF) for at, word in enumerate(words[:many])))
        self.no(tuple((word, OF) for word in words))

    def test_of_tables_and_words_ahead(self):
        for many in range(4):
            self.yes(BOOK[:many])
        self.yes(tuple((f"w{at}", look) for at, look in enumerate(SEVEN)))
        called = ("called", ("of", "cooks"), (("name", "who"),))
        self.yes((COOKS, ("who", called), ("more", ("columns", ("of", "who"), ("who", "job")))))
        self.yes((COOKS, ("same", ("union", OF, ("of", "cooks"))), ("gap", ("gap", ("of", "same"), ("of", "cooks")))))

    def test_words(self):
        self.no((COOKS, COOKS))
        self.no((COOKS, ("cooks", TOWN)))
        self.no((("folk", OF),))
        self.no((COOKS, ("towns", TOWN)))
        for word in NO_WORDS + JUNK:
            self.no(((word, OF),))
            self.no((COOKS, (word, OF)))

    def test_its_own_word_or_one_behind(self):
        self.no((("a", ("of", "a")),))
        self.no((("a", ("union", OF, ("of", "a"))),))
        self.no((("a", ("of", "b")), ("b", OF)))
        self.no(BOOK[::-1])
        self.no((LANDS, COOKS))
        self.yes((("b", OF), ("a", ("of", "b"))))

    def test_no_look(self):
        for look in (("of", "zebra"), ("of",), OF + OF, ("rows", OF, ()), ("rows", ("of", "cooks"), ()),
                     ("join", OF), ("union", ("of", "cooks"), TOWN), rows_deep(9)):
            self.no((COOKS, ("a", look)))
            self.no((("a", look),))

    def test_columns_that_its_word_has_not(self):
        short = ("short", ("columns", OF, ("job", "name")))
        who = ("who", ("called", OF, (("name", "who"),)))
        self.yes((short, ("a", ("columns", ("of", "short"), ("name",)))))
        self.no((short, ("a", ("columns", ("of", "short"), ("town",)))))
        self.no((short, ("a", ("rows", ("of", "short"), (("is", "town", "york"),)))))
        self.no((who, ("a", ("columns", ("of", "who"), ("name",)))))
        self.no((who, ("a", ("union", ("of", "who"), OF))))
        self.no((short, ("a", ("union", ("of", "short"), ("columns", OF, ("name", "job"))))))
        self.yes((short, ("a", ("union", ("of", "short"), ("columns", OF, ("job", "name"))))))

    def test_depth_begins_anew(self):
        deep = (("a", rows_deep(8)),)
        self.yes(deep)
        self.yes(deep + (("b", paired_deep("union", 8, True)),))
        look = ("of", "a")
        for depth in range(1, 10):
            if depth <= 8:
                self.yes(deep + (("b", look),))
            else:
                self.no(deep + (("b", look),))
            look = ("rows", look, (("is", "name", "ann"),))

    def test_parts(self):
        for part in (COOKS[:1], COOKS[1:], COOKS + (OF,), COOKS + COOKS, (), COOKS[::-1], None, OF):
            self.no((part,))
            self.no((COOKS, part))
        self.no(COOKS)

    def test_of_anything(self):
        for thing in JUNK:
            if not (isinstance(thing, tuple) and len(thing) == 0):
                self.no(thing)
        book = (COOKS, LANDS)
        for thing in as_lists(book):
            self.no(thing)
        for thing in with_junk(book, lambda part, junk: part == book and isinstance(junk, tuple) and len(junk) == 0):
            self.no(thing)

    def test_asked_again_and_nothing_changed(self):
        args = copy.deepcopy((SCHEMA, BOOK))
        for step in range(2):
            self.assertIs(is_book(*args), True)
        self.assertEqual(args, (SCHEMA, BOOK))


class Unfolded(unittest.TestCase):
    def test_tables_alone(self):
        for look in SEVEN:
            for book in ((), BOOK):
                self.assertEqual(unfolded(book, look), look)

    def test_words(self):
        self.assertEqual(unfolded(BOOK, ("of", "cooks")), COOKS[1])
        lands = ("columns", ("join", COOKS[1], TOWN), ("land", "name"))
        self.assertEqual(unfolded(BOOK, ("of", "lands")), lands)
        others = ("gap", ("columns", OF, ("name",)), ("columns", lands, ("name",)))
        self.assertEqual(unfolded(BOOK, ("of", "others")), others)
        tests = (("is", "town", "york"),)
        self.assertEqual(unfolded(BOOK, ("rows", ("of", "cooks"), tests)), ("rows", COOKS[1], tests))
        self.assertEqual(unfolded(BOOK, ("called", ("of", "lands"), (("land", "cooks"),))),
                         ("called", lands, (("land", "cooks"),)))
        for word in ("join", "union", "gap"):
            self.assertEqual(unfolded(BOOK, (word, ("of", "cooks"), OF)), (word, COOKS[1], OF))
            self.assertEqual(unfolded(BOOK, (word, OF, ("of", "cooks"))), (word, OF, COOKS[1]))

    def test_a_word_called_as_a_form_a_column_or_a_value(self):
        book = (("rows", ("rows", OF, (("is", "job", "cook"),))), ("of", ("columns", ("of", "rows"), ("name",))),
                ("name", ("of", "of")))
        self.assertIs(is_book(SCHEMA, book), True)
        self.assertEqual(unfolded(book, ("rows", ("of", "name"), (("is", "name", "of"),))),
                         ("rows", ("columns", book[0][1], ("name",)), (("is", "name", "of"),)))

    def test_deeper_than_eight(self):
        book, deep = (("a", rows_deep(8)),), rows_deep(8)
        for word, ahead in zip("bcdefgh", "abcdefg"):
            look = ("of", ahead)
            for step in range(7):
                look = ("columns", look, ("name", "town", "job"))
                deep = ("columns", deep, ("name", "town", "job"))
            book += ((word, look),)
        self.assertIs(is_book(SCHEMA, book), True)
        look = unfolded(book, ("of", "h"))
        self.assertEqual(look, deep)
        self.assertEqual(depth_of(look), 57)
        self.assertIs(is_look(SCHEMA, look), False)
        self.assertEqual(columns_of(SCHEMA, look), ("name", "town", "job"))
        self.assertEqual(told(SCHEMA, FILLING, look), (ANN,))
        self.assertEqual(counts(SCHEMA, FILLING, look), ((ANN, 1),))
        case = (SCHEMA, FILLING, (), (), look, ((ANN,), (("ann", "bath", "none"),)))
        answer = lead_back(*case)
        self.assertEqual(answer[:2], ("way", (("folk", ("ann",), ANN, ("ann", "bath", "none")),)))
        self.assertIs(is_way(*case, answer[1]), True)
        self.assertIs(shows_way(*case, *answer[1:]), True)

    def test_words_twice_in_each(self):
        book = (("a", ("columns", OF, ("job",))),)
        for word, ahead in zip("bcdefgh", "abcdefg"):
            book += ((word, ("union" if word < "e" else "join", ("of", ahead), ("of", ahead))),)
        look = unfolded(book, ("of", "h"))
        self.assertEqual(columns_of(SCHEMA, look), ("job",))
        self.assertEqual(counts(SCHEMA, FILLING, look), ((("cook",), 16 ** 16), (("none",), 8 ** 16)))
        case = (SCHEMA, FILLING, (), (), look, ((("none",),), ()))
        answer = lead_back(*case)
        self.assertEqual(answer[:2], ("way", (("folk", ("bob",), BOB, ("bob", "york", "cook")),)))
        case = (SCHEMA, ((ANN, CID), ()), (), (), look, ((), (("none",),)))
        answer = lead_back(*case)
        self.assertEqual(answer[0], "two")
        self.assertIs(shows_two(*case, *answer[1:]), True)

    def test_eight_looks_that_use_the_one_ahead_most_often(self):
        # The look put together holds the table's name more often than anybody could go through.
        for words, many in ((("union",), 2 ** 56), (("join",), 1), (("join", "join", "join", "gap"), None)):
            book, leaf = (), OF
            for word in "abcdefgh":
                look = leaf
                for step in range(7):
                    look = (words[step % len(words)], look, look)
                book += ((word, look),)
                leaf = ("of", word)
            self.assertIs(is_book(SCHEMA, book), True)
            look = unfolded(book, ("of", "h"))
            self.assertEqual(columns_of(SCHEMA, look), ("name", "town", "job"))
            rows = FILLING[0] if many else ()
            self.assertEqual(told(SCHEMA, FILLING, look), rows)
            self.assertEqual(counts(SCHEMA, FILLING, look), tuple((row, many) for row in rows))
            change = (("folk", ("bob",), BOB, None),)
            if many:
                case = (SCHEMA, FILLING, (), (), look, ((BOB,), ()))
                answer = lead_back(*case)
                self.assertEqual(answer[:2], ("way", change))
                self.assertIs(shows_way(*case, *answer[1:]), True)
            keeper = Keeper(SCHEMA, FILLING, (), book)
            self.assertEqual(keeper.rows("h"), rows)
            self.assertEqual(sorted(keeper.change(change)), list("abcdefgh") if many else [])

    def test_many_as_if_words_were_tables(self):
        deep = some = 0
        for seed in range(1200):
            chance = Chance(seed)
            filling = chance.filling()
            book = chance.book(seed % 6, 5)
            look, columns = chance.look(seed % 5 + 1)
            self.assertIs(is_book(chance.schema, book), True)
            wide, full = chance.schema, filling
            for (word, part), table in zip(book, chance.words):
                names = [column for column, values in table[1]]
                rows = {tuple(row[name] for name in names) for row in records(wide, full, part)}
                wide, full = wide + (table,), full + (tuple(sorted(rows)),)
            whole = unfolded(book, look)
            self.assertEqual(columns_of(chance.schema, whole), columns)
            rows = {tuple(row[name] for name in columns) for row in records(wide, full, look)}
            self.assertEqual(told(chance.schema, filling, whole), tuple(sorted(rows)))
            self.assertEqual(unfolded(book, look), whole)
            self.assertEqual(unfolded(book, whole), whole)
            deep += depth_of(whole) > 8
            some += bool(rows)
        self.assertGreater(deep, 50)
        self.assertGreater(some, 400)


if __name__ == "__main__":
    unittest.main()
