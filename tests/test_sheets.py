import copy
import unittest

from lookback.errors import LookError, NoText
from lookback.reading import read_sheet
from lookback.rules import broken
from lookback.showing import show_sheet
from chance import Chance
from samples import EMPTY, FILLING, JUNK, NO_WORDS, SCHEMA, shown
from test_keeping import BOOK, RULES
from test_looks import rows_deep
from test_texts import written

LINES = (
    "table folk 1 name:cid,ann,bob town:york,bath job:none,cook",
    "table towns 2 town:york,bath land:west,east",
    "row folk ann bath cook",
    "row folk bob york none",
    "row folk cid york cook",
    "row towns bath west",
    "row towns york east",
    "row towns york west",
    "rule nobody rows 1 is name zebra of folk",
    "rule known gap columns 1 town of folk columns 1 town of towns",
    "rule nodole rows 2 is town bath is job none of folk",
    "look cooks rows 1 is job cook of folk",
    "look lands columns 2 land name join of cooks of towns",
    "look others gap columns 1 name of folk columns 1 name of cooks",
)
SHEET = (SCHEMA, FILLING, RULES, BOOK)


def sheet_text(schema, filling, rules, book):
    """The text of a sheet, as the document words it."""
    lines = []
    for name, columns, keys in schema:
        lines.append(f"table {name} {keys}" + "".join(f" {column}:" + ",".join(values) for column, values in columns))
    for table, rows in zip(schema, filling):
        for row in rows:
            lines.append("row " + table[0] + "".join(" " + value for value in row))
    lines += [f"rule {word} {written(look)}" for word, look in rules]
    lines += [f"look {word} {written(look)}" for word, look in book]
    return "\n".join(lines)


class Sheets(unittest.TestCase):
    def reads(self, text, sheet):
        for step in range(2):
            self.assertEqual(read_sheet(text), sheet)
        self.assertIsInstance(read_sheet(text), tuple)
        self.assertEqual(show_sheet(*sheet), text)

    def no(self, thing, row):
        with self.assertRaises(NoText, msg=shown(thing)) as caught:
            read_sheet(thing)
        self.assertEqual(caught.exception.row, row, thing)
        self.assertIs(caught.exception.row.__class__, int)
        self.assertEqual(caught.exception.__class__.__bases__, (LookError,))

    def with_line(self, at, *lines):
        """The text with others in the place of a row."""
        return "\n".join(LINES[:at] + lines + LINES[at + 1:])


class Reads(Sheets):
    def test_whole(self):
        self.reads("\n".join(LINES), SHEET)
        self.assertEqual(sheet_text(*SHEET), "\n".join(LINES))

    def test_without_rows_rules_or_looks(self):
        self.reads("\n".join(LINES[:2]), (SCHEMA, EMPTY, (), ()))
        self.reads("\n".join(LINES[:8]), (SCHEMA, FILLING, (), ()))
        self.reads("\n".join(LINES[:2] + LINES[8:11]), (SCHEMA, EMPTY, RULES, ()))
        self.reads("\n".join(LINES[:2] + LINES[11:]), (SCHEMA, EMPTY, (), BOOK))
        self.reads("\n".join(LINES[:1] + LINES[8:9]), (SCHEMA[:1], ((),), RULES[:1], ()))
        self.reads("table a 1 a:a", ((("a", (("a", ("a",)),), 1),), ((),), (), ()))
        self.reads("table a 1 a:a\nrow a a", ((("a", (("a", ("a",)),), 1),), ((("a",),),), (), ()))

    def test_four_of_all_and_most_rules_and_looks(self):
        columns = tuple((f"c{k}", ("d", "c", "b", "a")) for k in range(4))
        schema = tuple((name, columns, keys) for keys, name in enumerate(("0", "1", "a", "b"), 1))
        rules = tuple((f"r{k}", ("of", "a")) for k in range(6))
        book = tuple((f"w{k}", ("of", f"w{k - 1}" if k else "b")) for k in range(8))
        filling = ((("a", "a", "a", "a"), ("b", "a", "a", "a")), (), (("c", "c", "c", "d"),), ())
        self.reads(sheet_text(schema, filling, rules, book), (schema, filling, rules, book))

    def test_words_of_the_forms_as_names(self):
        lines = ("table row 1 table:rule,look", "row row look", "rule table of row", "look rule of row",
                 "look look of rule")
        self.reads("\n".join(lines), (
            (("row", (("table", ("rule", "look")),), 1),), ((("look",),),), (("table", ("of", "row")),),
            (("rule", ("of", "row")), ("look", ("of", "rule")))))

    def test_rules_that_do_not_hold(self):
        rules = (("full", ("of", "folk")),) + RULES
        self.assertEqual(broken(SCHEMA, FILLING, rules), "full")
        self.reads(sheet_text(SCHEMA, FILLING, rules, BOOK), (SCHEMA, FILLING, rules, BOOK))

    def test_many(self):
        some = 0
        for seed in range(600):
            chance = Chance(seed)
            filling = chance.filling()
            rules = tuple((f"r{k}", chance.look(seed % 8 + 1)[0]) for k in range(seed % 7))
            sheet = (chance.schema, filling, rules, chance.book(seed % 9, 6))
            before = copy.deepcopy(sheet)
            text = sheet_text(*sheet)
            self.reads(text, sheet)
            self.assertEqual(sheet, before)
            some += broken(chance.schema, filling, rules) is not None
        self.assertGreater(some, 100)


class Refused(Sheets):
    def test_no_text(self):
        for thing in JUNK:
            if not isinstance(thing, str):
                self.no(thing, 0)
        for thing in (SHEET, list(LINES), "\n".join(LINES).encode(), None, ""):
            self.no(thing, 0)

    def test_a_row_of_no_form(self):
        for at in range(len(LINES)):
            for line in ("", " ", "table", "row", "rule", "look", "tables a 1 a:a", "Row folk ann bath cook", "zebra",
                         LINES[at] + " ", " " + LINES[at], LINES[at].replace(" ", "  ", 1), LINES[at] + "\t",
                         LINES[at].upper(), LINES[at] + " A", LINES[at].replace(" ", "\t", 1), "- " + LINES[at]):
                self.no(self.with_line(at, line), at)
                self.no(self.with_line(at, line, "zebra", ""), at)
            self.no("\n".join(LINES[:at] + ("",) + LINES[at:]), at)

    def test_tables(self):
        for line in ("table", "table a", "table a 1", "table a a:a", "table 1 a:a", "table a 1 a", "table a 1 a:",
                     "table a 1 :a", "table a 1 :", "table a 1 a:a,", "table a 1 a:,a", "table a 1 a:a,,b",
                     "table a 1 a:a:b", "table a 1 a:a;b", "table a 1 a: a", "table a 1 a:a, b", "table a 10 a:a",
                     "table a x a:a", "table a 01 a:a", "table a -1 a:a", "table a 1 a:a b", "table A 1 a:a",
                     "table a 1 A:a", "table a 1 a:A", "table ninesigns 1 a:a", "table a 1 ninesigns:a",
                     "table a 1 a:ninesigns", "table a 1 a:a b:b c:c d:d e:e", "table a 1 a:a,b,c,d,e", "table a  a:a",
                     "table a 1 a:a,b,c,d,"):
            self.no(line, 0)
            self.no("\n".join((line,) + LINES), 0)
            self.no(self.with_line(1, line), 1)

    def test_keys_are_one_figure(self):
        for code in range(33, 127):
            if chr(code) not in "12":
                self.no(f"table a {chr(code)} a:a b:b", 1 if chr(code).isdigit() else 0)
            self.no(f"table a 1{chr(code)} a:a", 0)
            self.no(f"table a {chr(code)}1 a:a", 0)

    def test_tables_that_are_none(self):
        for line in ("table a 0 a:a", "table a 2 a:a", "table a 9 a:a b:b", "table a 1 a:a a:b", "table a 1 a:a,a",
                     "table a 1 a:a b:b,c,b"):
            self.no(line, 1)
            self.no(line + "\n" + line, 2)
            self.no("\n".join((line,) + LINES), 15)
        self.no("\n".join((LINES[1], LINES[0]) + LINES[2:]), 14)
        self.no("\n".join(LINES[:1] + LINES), 15)
        self.no("\n".join(f"table {name} 1 a:a" for name in "abcde"), 5)
        self.assertEqual(len(read_sheet("\n".join(f"table {name} 1 a:a" for name in "abcd"))[0]), 4)
        self.no("\n".join(LINES[2:]), 12)
        self.no("row folk ann bath cook", 1)
        self.no("rule a of a", 1)
        self.no("look a of a", 1)

    def test_rows(self):
        for line in ("row", "row folk", "row folk ", "row folk ann,bath,cook", "row folk ann Bath cook",
                     "row Folk ann bath",
                     "row folk ann bath cook none none", "row folk ninesigns bath cook", "row folk ann  cook",
                     "row  folk ann"):
            self.no(self.with_line(2, line), 2)
        for line in ("row folk ann", "row folk ann bath", "row folk ann bath cook none", "row folk dan bath cook",
                     "row folk ann cook bath", "row zebra ann bath cook", "row cooks ann bath cook",
                     "row towns bath east",
                     "row folk bob york cook"):
            self.no(self.with_line(2, line), 14)
        self.no(self.with_line(2, LINES[3]), 14)

    def test_rows_out_of_order_or_with_keys_alike(self):
        self.no("\n".join(LINES[:2] + (LINES[3], LINES[2]) + LINES[4:]), 14)
        self.no("\n".join(LINES[:2] + LINES[5:8] + LINES[2:5] + LINES[8:]), 14)
        self.no("\n".join(LINES[:4] + LINES[5:6] + LINES[4:5] + LINES[6:]), 14)
        self.no(self.with_line(2, LINES[2], LINES[2]), 15)
        self.no(self.with_line(2, LINES[2], "row folk ann york cook"), 15)
        self.reads(self.with_line(2), (SCHEMA, (FILLING[0][1:], FILLING[1]), RULES, BOOK))

    def test_rules_and_looks(self):
        for word, at in (("rule", 8), ("look", 11)):
            for rest in ("", " a", " of folk", " A of folk", " a of", " a of folk of", " a a of folk",
                         " a rows 0 of folk",
                         " ninesigns of folk", " a columns 01 job of folk", " a " + written(rows_deep(17)),
                         " a rows 5" + " is name ann" * 5 + " of folk", " a of  folk"):
                self.no(self.with_line(at, word + rest), at)
            for rest in ("of zebra", "columns 1 land of folk", "columns 2 job job of folk", "union of folk of towns",
                         written(rows_deep(9)), written(rows_deep(16)), "called 1 job name of folk",
                         "columns 99" + " job" * 99 + " of folk"):
                self.no(self.with_line(at, f"{word} a {rest}"), 14)
            self.assertEqual(len(read_sheet("\n".join(LINES[:8] + (f"{word} a {written(rows_deep(8))}",)))), 4)

    def test_words_alike_or_too_many(self):
        self.no(self.with_line(8, LINES[8], "rule known of folk"), 15)
        self.no(self.with_line(8, LINES[8], LINES[8]), 15)
        self.no("\n".join(LINES[:2] + tuple(f"rule r{k} of folk" for k in range(7))), 9)
        self.no("\n".join(LINES[:2] + tuple(f"look r{k} of folk" for k in range(9))), 11)
        self.no(self.with_line(11, LINES[11], "look cooks of folk"), 15)
        self.no(self.with_line(11, LINES[11], "look folk of folk"), 15)

    def test_books_that_are_none(self):
        self.no("\n".join(LINES[:11] + (LINES[12], LINES[11]) + LINES[13:]), 14)
        self.no(self.with_line(11, "look cooks of cooks"), 14)
        self.no(self.with_line(11, "look cooks columns 2 town job of folk"), 14)
        self.no(self.with_line(8, "rule nobody of cooks"), 14)

    def test_rules_may_be_called_as_tables_and_looks(self):
        text = self.with_line(8, "rule folk rows 1 is name zebra of folk", "rule cooks rows 1 is name zebra of folk")
        self.assertEqual([word for word, look in read_sheet(text)[2]], ["folk", "cooks", "known", "nodole"])

    def test_a_word_that_stands_ahead(self):
        for at, line in ((3, LINES[0]), (9, LINES[0]), (12, LINES[0]), (14, LINES[1]), (9, LINES[2]), (12, LINES[7]),
                         (14, LINES[5]), (12, LINES[8]), (14, LINES[10]), (14, "rule a of zebra"), (14, "row zebra a")):
            self.no("\n".join(LINES[:at] + (line,) + LINES[at:]), at)
            self.no("\n".join(LINES[:at] + (line, "zebra") + LINES[at:]), at)
        self.no("\n".join(LINES[8:11] + LINES[:8]), 3)
        # What no sheet writes is told only where each row has a form.
        self.no("\n".join(("table a 0 a:a",) + LINES + ("zebra",)), 15)
        self.no("\n".join((LINES[1], LINES[0]) + LINES[2:] + LINES[:1]), 14)

    def test_line_feeds(self):
        text = "\n".join(LINES)
        self.no(text + "\n", 14)
        self.no(text + "\n\n", 14)
        self.no("\n" + text, 0)
        self.no("\n", 0)
        self.no("table a 1 a:a\n", 1)
        self.no(text.replace("\n", "\n\n", 1), 1)
        self.no(text.replace("\n", ";"), 0)
        self.no(text.replace("\n", " \n", 1), 0)
        self.no(text.replace("\n", "\n ", 1), 1)

    def test_no_words(self):
        for word in NO_WORDS:
            if "\n" in word:
                continue
            self.no(self.with_line(0, f"table {word} 1 a:a"), 0)
            self.no(self.with_line(0, f"table a 1 {word}:a"), 0)
            self.no(self.with_line(8, f"rule {word} of folk"), 8)
            self.no(self.with_line(11, f"look {word} of folk"), 11)
            self.no(self.with_line(11, f"look a of {word}"), 11)


if __name__ == "__main__":
    unittest.main()
