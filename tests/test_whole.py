import inspect
import unittest

from lookback import asks, books, changes, counted, counting, desk, errors, fillings, halves, keeping, leading
from lookback import looks, papers, reading, reasons, rules, schemas, showing, sources, stands, telling
from lookback.asks import is_way
from lookback.books import unfolded
from lookback.changes import cost_of
from lookback.counting import counts
from lookback.desk import Desk
from lookback.errors import Barred, Never, NoAsk, NoChange, NoSources, NoText, Two
from lookback.fillings import row_at
from lookback.keeping import Keeper
from lookback.leading import lead_back
from lookback.reading import read_look, read_sheet
from lookback.schemas import keys_of, rows_with
from lookback.telling import told
from chance import Chance
from oracle import how_many_fillings
from test_sheets import sheet_text
from test_texts import written


def row_text(row):
    return ",".join(row)


def list_text(texts):
    return " ".join(texts) or "-"


class Beside:
    """Lines by chance, and what a keeper and the other parts say to the same."""

    def __init__(self, seed):
        self.chance = Chance(seed)
        self.pick = self.chance.random
        filling = self.chance.filling()
        self.schema = self.chance.schema
        self.rules = (self.known(filling) + self.chance.rules(filling, seed % 7))[:6]
        self.free = self.chance.look(seed % 4 + 1)[0]
        self.book = self.chance.book(seed % 3 + 1, 4)
        self.names = [table[0] for table in self.schema]
        self.looks = {name: ("of", name) for name in self.names}
        self.looks.update({word: unfolded(self.book, ("of", word)) for word, look in self.book})
        self.text = sheet_text(self.schema, filling, self.rules, self.book)
        self.keeper = Keeper(self.schema, filling, self.rules, self.book)

    def known(self, filling):
        """Rules that hold: what stands in a column of a table stands in that of another, too."""
        cuts = [("columns", ("of", name), (column[0],)) for name, columns, keys in self.schema for column in columns]
        gaps = [("gap", one, other) for one in cuts for other in cuts if one[2] == other[2] and one != other]
        held = [look for look in gaps if told(self.schema, filling, look) == ()]
        return tuple((f"k{k}", look) for k, look in enumerate(held))

    def said(self, deed):
        """A line, and what is to be answered to it."""
        return getattr(self, deed)()

    def tell(self):
        word = self.pick.choice(list(self.looks))
        return f"tell {word}", list_text([row_text(row) for row in self.keeper.rows(word)])

    def count(self):
        word = self.pick.choice(list(self.looks))
        pairs = counts(self.schema, self.keeper.filling(), self.looks[word])
        return f"count {word}", list_text([row_text(row) + "*" + str(count) for row, count in pairs])

    def why(self):
        word = self.pick.choice(list(self.looks))
        row = self.pick.choice(self.keeper.rows(word) + (("a",), ("b", "c")))
        try:
            answer = str(len(sources.sources(self.schema, self.keeper.filling(), self.looks[word], row)))
        except NoSources:
            answer = "gap"
        return f"why {word} {row_text(row)}", answer

    def ask(self):
        word = self.pick.choice(self.book)[0]
        look = self.looks[word]
        rows = told(self.schema, self.keeper.filling(), look)
        drops, comes = self.chance.ask(rows, told(self.schema, self.chance.filling(), look))
        if self.pick.random() < 0.1:
            comes += rows[:1]
        stays = self.chance.stays(0.1)
        things = ["-" + row_text(row) for row in drops] + ["+" + row_text(row) for row in comes]
        things += ["=" + name + ("." + column if column else "") for name, column in stays]
        self.pick.shuffle(things)
        return " ".join(["ask", word] + things), self.answer(word, stays, (drops, tuple(sorted(comes))))

    def answer(self, word, stays, ask):
        try:
            return f"done {cost_of(self.schema, self.keeper.ask(word, stays, ask))}"
        except Two as two:
            return f"two {cost_of(self.schema, two.other)}"
        except Barred as barred:
            return "barred " + barred.rule
        except Never:
            return "never"
        except NoAsk:
            return "no ask"

    def put(self, line, name, key, after):
        before = row_at(self.schema, self.keeper.filling(), name, key)
        if before == after:
            return line, "none"
        try:
            self.keeper.change(((name, key, before, after),))
        except Barred as barred:
            return line, "barred " + barred.rule
        return line, "done"

    def row(self):
        name = self.pick.choice(self.names)
        key = self.pick.choice(keys_of(self.schema, name))
        row = self.pick.choice(rows_with(self.schema, name, key))
        return self.put(f"row {name} {row_text(row)}", name, key, row)

    def drop(self):
        name = self.pick.choice(self.names)
        key = self.pick.choice(keys_of(self.schema, name))
        return self.put(f"drop {name} {row_text(key)}", name, key, None)

    def back(self):
        try:
            self.keeper.back()
        except NoChange:
            return "back", "none"
        return "back", "done"

    def breaks(self):
        return f"breaks {written(self.free)}", str(len(told(self.schema, self.keeper.filling(), self.free)))

    def sheet(self):
        text = sheet_text(self.schema, self.keeper.filling(), self.rules, self.book)
        return "sheet", text.replace("\n", ";")


DEEDS = ("tell", "count", "why", "ask", "row", "drop", "back", "breaks", "sheet", "ask", "ask", "row")


class Whole(unittest.TestCase):
    def test_line_by_line_beside_a_keeper(self):
        kinds = {}
        for seed in range(700):
            beside = Beside(seed)
            at_desk = Desk(beside.text)
            for step in range(14):
                line, answer = beside.said(beside.pick.choice(DEEDS))
                self.assertEqual(at_desk.say(line), answer, (seed, line))
                kind = line.split(" ")[0] + " " + answer.split(" ")[0]
                kinds[kind] = kinds.get(kind, 0) + 1
                self.assertEqual(at_desk.say("sheet"), beside.sheet()[1])
            sheet = at_desk.say("sheet").replace(";", "\n")
            self.assertEqual(read_sheet(sheet), (beside.schema, beside.keeper.filling(), beside.rules, beside.book))
            for change in beside.keeper.journal():
                self.assertEqual(at_desk.say("back"), "done")
            self.assertEqual(at_desk.say("back"), "none")
            self.assertEqual(at_desk.say("sheet"), beside.text.replace("\n", ";"))
            self.assertEqual(at_desk.say("tell " + beside.book[-1][0]),
                             Desk(beside.text).say("tell " + beside.book[-1][0]))
        for kind in ("ask done", "ask two", "ask barred", "ask never", "ask no", "row done", "row barred", "row none",
                     "drop done", "drop barred", "drop none", "back done", "back none", "why gap", "why 0", "why 1",
                     "why 2", "tell -", "count -"):
            self.assertGreater(kinds.get(kind, 0), 1, kind)

    def test_from_text_to_answer(self):
        at_desk = Desk("table folk 1 name:ann,bob town:york,bath\ntable towns 1 town:york,bath land:west,east\n"
                       "row folk ann york\nrow folk bob bath\nrow towns bath west\nrow towns york east\n"
                       "rule known gap columns 1 town of folk columns 1 town of towns\n"
                       "look homes columns 2 land name join of folk of towns\nlook east rows 1 is land east of homes")
        first = at_desk.say("sheet")
        for line, answer in (
                ("tell homes", "east,ann west,bob"), ("tell east", "east,ann"), ("why east east,ann", "1"),
                ("ask east -east,ann", "two 1"), ("ask east -east,ann =towns", "done 1"),
                ("tell folk", "ann,bath bob,bath"),
                ("count homes", "west,ann*1 west,bob*1"), ("drop towns york", "done"),
                ("row folk ann,york", "barred known"),
                ("ask homes -west,bob =folk.town =towns", "done 2"), ("tell folk", "ann,bath"),
                ("drop towns bath", "barred known"),
                ("breaks of folk", "1"), ("back", "done"), ("back", "done"), ("back", "done"), ("back", "none"),
                ("sheet", first)):
            self.assertEqual(at_desk.say(line), answer, line)

    def test_what_need_not_be_changed_is_left(self):
        many = 0
        for seed in range(1500):
            chance = Chance(seed)
            if how_many_fillings(chance.schema) > 400:
                continue
            filling = chance.filling()
            rules_held = chance.rules(filling, seed % 3)
            look = unfolded(chance.book(2, 4), chance.look(3)[0])
            ask = chance.ask(told(chance.schema, filling, look), told(chance.schema, chance.filling(), look))
            case = (chance.schema, filling, rules_held, chance.stays(0.05), look, ask)
            answer = lead_back(*case)
            for change in answer[1:-1] if answer[0] in ("way", "two") else ():
                self.assertIs(is_way(*case, change), True)
                for less in with_less(change):
                    self.assertIs(is_way(*case, less), False)
                    many += 1
        self.assertGreater(many, 200)


def with_less(change):
    """The change with one of its rows, or one cell of a row that stays, as before."""
    for at, (name, key, before, after) in enumerate(change):
        yield change[:at] + change[at + 1:]
        if before is not None and after is not None:
            for place, cell in enumerate(before):
                row = after[:place] + (cell,) + after[place + 1:]
                if row not in (before, after):
                    yield change[:at] + ((name, key, before, row),) + change[at + 1:]


class Interface(unittest.TestCase):
    """Names, arguments and modules as the document's last part has them."""

    DEFS = {
        schemas: {"is_schema": 1, "key_of": 3, "keys_of": 2, "rows_with": 3}, fillings: {"is_filling": 2, "row_at": 4},
        looks: {"columns_of": 2, "is_look": 2}, telling: {"told": 3},
        changes: {"is_change": 3, "changed": 3, "between": 3, "back_of": 1, "cost_of": 2},
        stands: {"are_stays": 2, "afters": 5}, halves: {"sure": 6, "may": 6}, rules: {"are_rules": 2, "broken": 3},
        asks: {"is_ask": 4, "is_way": 7}, leading: {"lead_back": 6},
        papers: {"shows_way": 8, "shows_two": 9, "shows_none": 7}, sources: {"sources": 4},
        reasons: {"reason_of": 4, "shows_reason": 5, "used_by": 1}, counting: {"counts": 3},
        books: {"is_book": 2, "unfolded": 2}, showing: {"show_look": 1, "show_sheet": 4},
        reading: {"read_look": 1, "read_sheet": 1},
    }
    CLASSES = {
        (counted, "Counted"): {"__init__": 3, "rows": 0, "counts": 0, "filling": 0, "change": 1},
        (keeping, "Keeper"): {"__init__": 4, "filling": 0, "rows": 1, "change": 1, "ask": 3, "back": 0, "journal": 0},
        (desk, "Desk"): {"__init__": 1, "say": 1},
        (errors, "Two"): {"__init__": 2}, (errors, "Barred"): {"__init__": 2}, (errors, "NoText"): {"__init__": 1},
    }

    def test_defs(self):
        for module, names in self.DEFS.items():
            for name, many in names.items():
                self.assertEqual(len(inspect.signature(getattr(module, name)).parameters), many, name)

    def test_classes(self):
        for (module, name), methods in self.CLASSES.items():
            made = getattr(module, name)
            self.assertIsInstance(made, type)
            for method, many in methods.items():
                self.assertEqual(len(inspect.signature(getattr(made, method)).parameters), many + 1, method)

    def test_texts_are_refused_by_one_error(self):
        for read in (read_look, read_sheet, Desk):
            with self.assertRaises(NoText):
                read("zebra")


if __name__ == "__main__":
    unittest.main()
