import random
import unittest

from lookback.errors import LookError, NoText
from lookback.looks import is_look
from lookback.reading import read_look
from lookback.showing import show_look
from chance import Chance
from samples import JUNK, NO_WORDS, shown
from test_looks import SEVEN, paired_deep, rows_deep

OF = ("of", "folk")
TEST = ("is", "name", "ann")


def written(look):
    """The text of a look, as the document words it."""
    word = look[0]
    if word == "of":
        return "of " + look[1]
    if word in ("join", "union", "gap"):
        return word + " " + written(look[1]) + " " + written(look[2])
    parts = [part if word == "columns" else " ".join(part) for part in look[2]]
    return f"{word} {len(parts)} {' '.join(parts)} {written(look[1])}"


class Words:
    """Looks by chance of words that nobody knows, alike or not."""

    def __init__(self, seed):
        self.random = random.Random(seed)

    def word(self):
        own = ("of", "rows", "columns", "called", "join", "union", "gap", "is", "not", "like", "unlike", "1", "2",
               "99", "0")
        if self.random.random() < 0.3:
            return self.random.choice(own)
        return "".join(self.random.choice("abz09") for k in range(self.random.randint(1, 8)))

    def look(self, depth):
        """A look that is just so deep."""
        pick = self.random
        if depth == 1:
            return ("of", self.word())
        word = pick.choice(("rows", "columns", "called", "join", "union", "gap"))
        one = self.look(depth - 1)
        if word in ("join", "union", "gap"):
            other = self.look(pick.randint(1, min(3, depth - 1)))
            return (word,) + ((one, other) if pick.random() < 0.5 else (other, one))
        if word == "rows":
            tests = tuple((pick.choice(("is", "not", "like", "unlike")), self.word(), self.word())
                          for k in range(pick.randint(1, 4)))
            return ("rows", one, tests)
        many = pick.choice((1, 2, 3, 9, 10, 11, 98, 99))
        return (word, one, tuple(self.word() if word == "columns" else (self.word(), self.word()) for k in range(many)))


class Texts(unittest.TestCase):
    def reads(self, text, look):
        self.assertEqual(read_look(text), look)
        self.assertEqual(read_look(text), look)
        self.assertEqual(show_look(look), text)
        self.assertEqual(text, written(look))

    def no(self, thing):
        with self.assertRaises(NoText, msg=shown(thing)) as caught:
            read_look(thing)
        self.assertEqual(caught.exception.row, 0)
        self.assertIsNot(caught.exception.row, False)
        self.assertEqual(caught.exception.__class__.__bases__, (LookError,))


class Reads(Texts):
    def test_each_form(self):
        self.reads("of folk", OF)
        self.reads("rows 1 is name ann of folk", ("rows", OF, (TEST,)))
        self.reads("rows 4 is a b not c d like e f unlike g h of folk",
                   ("rows", OF, (("is", "a", "b"), ("not", "c", "d"), ("like", "e", "f"), ("unlike", "g", "h"))))
        self.reads("columns 1 job of folk", ("columns", OF, ("job",)))
        self.reads("columns 2 job name of folk", ("columns", OF, ("job", "name")))
        self.reads("called 1 job work of folk", ("called", OF, (("job", "work"),)))
        self.reads("called 2 job work name who of folk", ("called", OF, (("job", "work"), ("name", "who"))))
        for word in ("join", "union", "gap"):
            self.reads(f"{word} of folk of towns", (word, OF, ("of", "towns")))
            self.reads(f"{word} {word} of a of b of c", (word, (word, ("of", "a"), ("of", "b")), ("of", "c")))
            self.reads(f"{word} of a {word} of b of c", (word, ("of", "a"), (word, ("of", "b"), ("of", "c"))))
        for look in SEVEN:
            self.reads(written(look), look)

    def test_words_of_the_forms_as_names(self):
        self.reads("of of", ("of", "of"))
        self.reads("join of join of of", ("join", ("of", "join"), ("of", "of")))
        self.reads("columns 2 of columns of rows", ("columns", ("of", "rows"), ("of", "columns")))
        self.reads("rows 1 is is is of 1", ("rows", ("of", "1"), (("is", "is", "is"),)))
        self.reads("called 1 1 1 of 99", ("called", ("of", "99"), (("1", "1"),)))

    def test_no_tables_and_columns_and_alike(self):
        self.reads("of 12345678", ("of", "12345678"))
        self.reads("columns 3 a a a of zebra", ("columns", ("of", "zebra"), ("a", "a", "a")))
        self.reads("called 2 a b a b of zebra", ("called", ("of", "zebra"), (("a", "b"), ("a", "b"))))
        self.reads("union of folk columns 1 a of towns", ("union", OF, ("columns", ("of", "towns"), ("a",))))
        self.reads("rows 2 is a b is a b of zebra", ("rows", ("of", "zebra"), (("is", "a", "b"),) * 2))

    def test_numbers(self):
        for many in range(1, 100):
            columns = tuple(f"c{k}" for k in range(many))
            self.reads(f"columns {many} {' '.join(columns)} of folk", ("columns", OF, columns))
            pairs = tuple((column, "x") for column in columns)
            self.reads(f"called {many} " + "".join(f"{column} x " for column in columns) + "of folk",
                       ("called", OF, pairs))
            text = f"rows {many} " + "is name ann " * many + "of folk"
            if many <= 4:
                self.reads(text, ("rows", OF, (TEST,) * many))
            else:
                self.no(text)

    def test_depth(self):
        for depth in range(1, 17):
            for look in (rows_deep(depth), paired_deep("join", depth, True), paired_deep("gap", depth, False)):
                self.reads(written(look), look)
        for look in (rows_deep(17), paired_deep("join", 17, True), paired_deep("gap", 17, False), rows_deep(60)):
            self.no(written(look))
        self.no(written(("join", OF, rows_deep(16))))
        self.no(written(("union", rows_deep(16), OF)))
        self.reads(written(("join", rows_deep(15), rows_deep(15))), ("join", rows_deep(15), rows_deep(15)))

    def test_many(self):
        for seed in range(600):
            look = Words(seed).look(seed % 16 + 1)
            self.reads(written(look), look)
            self.no(written(Words(seed).look(17)))
        for seed in range(300):
            chance = Chance(seed)
            look, columns = chance.look(8)
            self.assertTrue(is_look(chance.schema, look))
            self.reads(written(look), look)


class Refused(Texts):
    TEXTS = ("of folk", "rows 2 is name ann like job town of folk", "columns 2 job name of folk",
             "called 2 job work name who of folk", "join of folk of towns", "gap union of folk of folk of folk")

    def test_a_word_too_many_or_too_few(self):
        for text in self.TEXTS:
            words = text.split(" ")
            for many in range(len(words)):
                self.no(" ".join(words[:many]))
                self.no(" ".join(words[:many] + words[many + 1:]))
            for more in ("a", "of", "1", "of folk", "is", "rows"):
                self.no(text + " " + more)
            self.no("a " + text)

    def test_another_word(self):
        for text in ("off folk", "column 1 job of folk", "row 1 is name ann of folk", "rows 1 isnt name ann of folk",
                     "rows 1 name is ann of folk", "joins of a of b", "calls 1 a b of c", "1 of folk", "rows of folk",
                     "rows is name ann of folk", "columns job of folk", "called job work of folk", "join 2 of a of b",
                     "union 1 of a of b", "of 1 folk", "rows one is name ann of folk", "columns x job of folk",
                     "OF folk", "Of folk", "of Folk", "rows 1 IS name ann of folk", "rows 1 is NAME ann of folk",
                     "columns 1 Job of folk", "called 1 a B of folk", "rows 1 is a b_c of folk", "of ninesigns",
                     "columns 1 ninesigns of folk", "rows 1 is a ninesigns of folk"):
            self.no(text)

    def test_blanks_and_line_feeds(self):
        for text in self.TEXTS:
            self.no(" " + text)
            self.no(text + " ")
            self.no("\n" + text)
            self.no(text + "\n")
            self.no("\t" + text)
            for at, sign in enumerate(text):
                if sign == " ":
                    self.no(text[:at] + " " + text[at:])
                    self.no(text[:at] + "\n" + text[at + 1:])
                    self.no(text[:at] + "\t" + text[at + 1:])
                    self.no(text[:at] + text[at + 1:])
                    self.no(text[:at] + "," + text[at + 1:])

    def test_numbers(self):
        for number in ("0", "00", "01", "001", "02", "100", "101", "999", "-1", "+1", "1a", "a", "1.0", "10000000",
                       "x1"):
            many = min(int(number), 1000) if number.isdigit() else 1
            self.no(f"columns {number} " + "a " * many + "of folk")
            self.no(f"called {number} " + "a b " * many + "of folk")
            self.no(f"rows {number} " + "is a b " * many + "of folk")
        for code in list(range(32, 127)) + [10]:
            if not chr(code).isdigit() or code == 48:
                for number in (chr(code), chr(code) + "1"):
                    self.no(f"columns {number} a of folk")
                if code != 48:
                    self.no(f"columns 1{chr(code)} a of folk")
        for many in (5, 6, 9, 10, 99):
            self.no(f"rows {many} " + "is a b " * many + "of folk")
        for many in range(1, 6):
            for other in range(1, 6):
                if many != other:
                    self.no(f"columns {many} " + "a " * other + "of folk")
                    self.no(f"called {many} " + "a b " * other + "of folk")
                    self.no(f"rows {many} " + "is a b " * other + "of folk")

    def test_of_anything(self):
        for thing in JUNK:
            if not (isinstance(thing, str) and thing == "of folk"):
                self.no(thing)
        for thing in (OF, ["of", "folk"], b"of folk", ("of folk",), None, 0, True):
            self.no(thing)
        for word in NO_WORDS:
            self.no(f"of {word}")
            self.no(f"columns 1 {word} of folk")

    def test_long(self):
        self.no(" ".join(["join"] * 5000))
        self.no(" ".join(["join of a"] * 5000))
        self.no(" ".join(["of a"] * 5000))
        self.no("columns 99 " + "a " * 5000 + "of folk")

    def test_what_is_read_is_written_so(self):
        # Of texts torn by chance those that are read at all are just what is written.
        read = refused = 0
        for seed in range(4000):
            chance = Words(seed)
            words = written(chance.look(seed % 5 + 1)).split(" ")[:40]
            for step in range(chance.random.randint(1, 3)):
                at = chance.random.randrange(len(words))
                words[at:at + chance.random.randint(0, 1)] = [chance.word()] * chance.random.randint(0, 1)
                words = words or ["of"]
            text = " ".join(words)
            try:
                self.assertEqual(written(read_look(text)), text)
                read += 1
            except NoText as error:
                self.assertEqual(error.row, 0)
                refused += 1
        self.assertGreater(read, 100)
        self.assertGreater(refused, 100)


if __name__ == "__main__":
    unittest.main()
