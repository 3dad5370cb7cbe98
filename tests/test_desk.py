import unittest

from lookback.desk import Desk
from lookback.errors import Barred, LookError, NoLine, NoText
from lookback.reading import read_sheet
from samples import JUNK, Odd, shown
from test_looks import rows_deep
from test_sheets import LINES
from test_texts import written

TEXT = "\n".join(LINES)


class Said(unittest.TestCase):
    def setUp(self):
        self.desk = Desk(TEXT)

    def says(self, line, answer):
        self.assertEqual(self.desk.say(line), answer, line)

    def same(self, line, answer):
        """An answer that changes nothing, so that it is given again."""
        before = self.desk.say("sheet")
        self.says(line, answer)
        self.says(line, answer)
        self.says("sheet", before)

    def no(self, *things):
        before = self.desk.say("sheet")
        for thing in things:
            with self.assertRaises(NoLine, msg=shown(thing)) as caught:
                self.desk.say(thing)
            self.assertEqual(caught.exception.__class__.__bases__, (LookError,))
        self.says("sheet", before)


class Made(Said):
    def test_refused_as_the_text_is_read(self):
        for text, row in (("", 0), ("zebra", 0), (TEXT + "\n", 14), (TEXT.replace("row towns", "rows towns", 1), 5),
                          (TEXT.replace("ann", "dan"), 14), (None, 0), (b"table", 0), (Odd(), 0)):
            with self.assertRaises(NoText) as caught:
                Desk(text)
            self.assertEqual(caught.exception.row, row)
        for thing in JUNK:
            if not isinstance(thing, str):
                with self.assertRaises(NoText):
                    Desk(thing)

    def test_rules_that_do_not_hold(self):
        for lines, rule in (
                (("rule full of folk", "rule known of folk"), "full"),
                (("rule nobody rows 1 is name zebra of folk", "rule town of towns", "rule full of folk"), "town")):
            with self.assertRaises(Barred) as caught:
                Desk("\n".join(LINES[:8] + lines + LINES[11:]))
            self.assertEqual((caught.exception.rule, caught.exception.way), (rule, None))

    def test_desks_do_not_touch_each_other(self):
        other = Desk(TEXT)
        self.says("drop folk bob", "done")
        self.assertEqual(other.say("tell folk"), "ann,bath,cook bob,york,none cid,york,cook")
        self.assertEqual(other.say("back"), "none")


class Tells(Said):
    def test_tell(self):
        self.same("tell folk", "ann,bath,cook bob,york,none cid,york,cook")
        self.same("tell towns", "bath,west york,east york,west")
        self.same("tell cooks", "ann,bath,cook cid,york,cook")
        self.same("tell lands", "east,cid west,ann west,cid")
        self.same("tell others", "bob")
        self.says("drop folk bob", "done")
        self.same("tell others", "-")
        self.same("tell folk", "ann,bath,cook cid,york,cook")

    def test_count(self):
        self.desk = Desk("\n".join(LINES + ("look jobs columns 1 job union of folk of cooks",
                                            "look none gap of folk of folk",
                                            "look pairs join of jobs of jobs")))
        self.same("count folk", "ann,bath,cook*1 bob,york,none*1 cid,york,cook*1")
        self.same("count towns", "bath,west*1 york,east*1 york,west*1")
        self.same("count jobs", "cook*4 none*1")
        self.same("count pairs", "cook*16 none*1")
        self.same("count none", "-")
        self.says("drop folk ann", "done")
        self.same("count jobs", "cook*2 none*1")

    def test_why(self):
        self.desk = Desk("\n".join(LINES + ("look jobs columns 1 job of folk", "look same of others",
                                            "look both columns 1 land join of folk of towns")))
        self.same("why folk ann,bath,cook", "1")
        self.same("why towns york,east", "1")
        self.same("why cooks cid,york,cook", "1")
        self.same("why jobs cook", "2")
        self.same("why jobs none", "1")
        self.same("why both west", "3")
        self.same("why both east", "2")
        for row in ("zebra", "ann", "cook,cook", "a,b,c,d,e,f,g,h,i", "0"):
            self.same(f"why jobs {row}", "0")
        self.same("why folk bob,york,cook", "0")
        for word in ("others", "same"):
            for row in ("bob", "ann", "a,b,c"):
                self.same(f"why {word} {row}", "gap")
        self.says("drop folk ann", "done")
        self.same("why jobs cook", "1")

    def test_breaks(self):
        self.same("breaks of folk", "3")
        self.same("breaks columns 1 town of folk", "2")
        self.same("breaks rows 1 is name zebra of folk", "0")
        self.same("breaks gap columns 1 town of folk columns 1 town of towns", "0")
        self.same("breaks join of folk of towns", "5")
        self.same("breaks " + written(rows_deep(8)), "1")
        self.says("drop folk bob", "done")
        self.same("breaks of folk", "2")

    def test_sheet(self):
        self.same("sheet", ";".join(LINES))
        self.says("drop folk bob", "done")
        self.says("row towns bath,east", "done")
        text = self.desk.say("sheet")
        self.assertEqual(text, ";".join(LINES[:3] + LINES[4:5] + ("row towns bath east",) + LINES[5:]))
        sheet = read_sheet(text.replace(";", "\n"))
        self.assertEqual(sheet[0], read_sheet(TEXT)[0])
        self.assertEqual(sheet[2:], read_sheet(TEXT)[2:])
        self.assertEqual(Desk(text.replace(";", "\n")).say("sheet"), text)


class Changes(Said):
    def test_row(self):
        self.says("row towns bath,east", "done")
        self.says("tell towns", "bath,east bath,west york,east york,west")
        self.same("row towns bath,east", "none")
        self.says("row folk bob,york,cook", "done")
        self.says("tell folk", "ann,bath,cook bob,york,cook cid,york,cook")
        self.says("tell others", "-")
        self.same("row folk bob,york,cook", "none")
        self.same("row folk ann,bath,cook", "none")
        self.says("back", "done")
        self.says("tell others", "bob")

    def test_row_barred(self):
        self.same("row folk ann,bath,none", "barred nodole")
        self.same("row folk bob,bath,none", "barred nodole")
        self.says("row folk ann,york,cook", "done")
        self.says("drop towns bath,west", "done")
        self.same("row folk ann,bath,cook", "barred known")
        self.same("row folk ann,bath,none", "barred known")

    def test_drop(self):
        self.same("drop towns bath,west", "barred known")
        self.says("drop folk ann", "done")
        self.same("drop folk ann", "none")
        self.says("drop towns bath,west", "done")
        self.same("drop towns bath,east", "none")
        self.says("tell folk", "bob,york,none cid,york,cook")
        self.says("tell towns", "york,east york,west")

    def test_no_such_row_or_key(self):
        self.no("row folk dan,bath,cook", "row folk ann,bath", "row folk ann,bath,cook,none", "row folk cook,bath,ann",
                "row towns ann,bath,cook", "row towns east,bath", "row folk bath", "drop folk dan",
                "drop folk ann,bath",
                "drop folk ann,bath,cook", "drop towns bath", "drop towns west,bath", "drop towns bath,west,bath",
                "drop folk york")

    def test_no_such_table(self):
        self.no("row zebra ann,bath,cook", "row cooks ann,bath,cook", "row known a", "drop zebra ann", "drop cooks ann",
                "drop others bob", "drop nobody ann")

    def test_back(self):
        self.same("back", "none")
        self.says("drop folk bob", "done")
        self.says("row folk bob,bath,cook", "done")
        self.says("ask cooks", "done 0")
        self.says("back", "done")
        self.says("tell folk", "ann,bath,cook bob,bath,cook cid,york,cook")
        self.says("back", "done")
        self.says("tell folk", "ann,bath,cook cid,york,cook")
        self.says("back", "done")
        self.same("back", "none")
        self.same("sheet", ";".join(LINES))

    def test_what_does_nothing_is_not_undone(self):
        self.says("drop folk bob", "done")
        for line, answer in (("drop folk bob", "none"), ("row folk ann,bath,cook", "none"), ("row folk ann,bath,none",
                             "barred nodole"), ("ask cooks -zebra", "no ask"), ("ask cooks +ann,york,cook", "never")):
            self.says(line, answer)
        self.says("back", "done")
        self.same("back", "none")
        self.same("sheet", ";".join(LINES))


class Asks(Said):
    def test_done(self):
        self.says("ask others -bob", "done 1")
        self.says("tell folk", "ann,bath,cook bob,york,cook cid,york,cook")
        self.says("tell others", "-")
        self.says("ask others +ann", "done 2")
        self.says("tell folk", "ann,york,none bob,york,cook cid,york,cook")
        self.says("ask others -ann +bob", "done 2")
        self.says("tell others", "bob")

    def test_nothing_asked(self):
        self.same("ask lands", "done 0")
        self.same("ask lands =folk", "done 0")
        self.says("back", "done")
        self.says("back", "done")
        self.says("back", "done")
        self.says("back", "done")
        self.says("back", "none")

    def test_stays(self):
        self.same("ask others -bob =folk", "never")
        self.says("ask others -bob =folk.job", "done 3")
        self.says("tell folk", "ann,bath,cook cid,york,cook")
        self.says("back", "done")
        self.says("ask others -bob =folk.town =towns", "done 1")

    def test_any_order(self):
        things = ("-bob", "+ann", "=folk.town", "=towns")
        answers = []
        for first in things:
            for second in things:
                rest = [thing for thing in things if thing not in (first, second)]
                if first != second:
                    for order in (rest, rest[::-1]):
                        desk = Desk(TEXT)
                        answers.append((desk.say(" ".join(["ask others", first, second] + order)), desk.say("sheet")))
        self.assertEqual(len(answers), 24)
        self.assertEqual(len(set(answers)), 1)

    def test_rows_in_any_order(self):
        for line in ("ask cooks -ann,bath,cook -cid,york,cook", "ask cooks -cid,york,cook -ann,bath,cook"):
            desk = Desk(TEXT)
            self.assertEqual(desk.say(line), "done 3")
            self.assertEqual(desk.say("tell folk"), "ann,york,none bob,york,none cid,york,none")
        for line in ("ask lands =towns =folk.town =folk.job", "ask lands =folk.job =folk.town =towns"):
            self.assertEqual(self.desk.say(line), "done 0")

    def test_two(self):
        self.desk = Desk("\n".join(LINES[:3] + LINES[4:10] + LINES[11:] + ("look jobs columns 1 job of folk",)))
        self.same("ask jobs +none", "two 1")
        self.says("back", "none")
        self.says("ask jobs +none -cook", "done 2")

    def test_barred(self):
        gone = ("rule gone gap columns 1 town of towns columns 1 town of folk",)
        self.desk = Desk("\n".join(LINES[:11] + gone + LINES[11:]))
        self.same("ask cooks -ann,bath,cook =folk.town =towns", "barred gone")
        self.same("ask cooks -ann,bath,cook =folk.town", "done 5")

    def same(self, line, answer):
        """As it is, or, of what was done, undone again and done anew."""
        before = self.desk.say("sheet")
        for step in range(2):
            self.says(line, answer)
            if answer.startswith("done") and answer != "done 0":
                self.says("back", "done")
        self.says("sheet", before)

    def test_never(self):
        self.same("ask cooks +ann,york,cook", "never")
        self.same("ask cooks +dan,york,cook", "never")
        self.same("ask others +zebra", "never")

    def test_no_ask(self):
        for things in ("-ann", "-ann,bath,none", "+ann,bath,cook", "-ann,bath,cook +ann,bath,cook", "-a,b,c,d", "+a,b",
                       "-ann,bath,cook -ann,bath,cook", "+bob,york,cook +bob,york,cook", "=folk =folk",
                       "=folk.job =towns =folk.job", "=folk.name", "=towns.town", "=towns.land", "=folk =folk.name",
                       "+bob,york,cook =folk.name", "-bob,york,none", "+ann,york,cook +zebra"):
            self.same(f"ask cooks {things}", "no ask")
        self.says("back", "none")

    def test_no_line_ahead_of_no_ask(self):
        self.no("ask cooks =folk =folk zebra", "ask cooks -zebra =zebra", "ask cooks =folk.name =folk.zebra",
                "ask cooks -ann -ann -", "ask cooks -zebra -A")

    def test_no_such_word(self):
        self.no("ask", "ask ", "ask zebra", "ask folk", "ask folk -ann,bath,cook", "ask towns", "ask known",
                "ask nobody",
                "ask -ann,bath,cook", "ask  cooks", "ask Cooks", "ask =folk", "ask cooks,others")

    def test_things_of_no_form(self):
        for thing in ("-", "+", "=", "", "ann", "ann,bath,cook", "*ann", "-ann,", "-,ann", "-ann,,cook", "--ann",
                      "+-ann",
                      "-+ann", "-Ann,bath,cook", "-ninesigns", "-ann;bath", "=zebra", "=cooks", "=known", "=folk.zebra",
                      "=folk.", "=.job", "=.", "=folk.job.", "=folk.job.job", "=folk..job", "=Folk", "=folk,job",
                      "=folk.land", "=towns.job", "=folk.job,town", "- ann", "=folk .job", "-a b", "=folk\n", "-ann\n"):
            self.no(f"ask cooks {thing}")
            self.no(f"ask cooks -ann,bath,cook {thing}")
            self.no(f"ask cooks {thing} -ann,bath,cook")


class NoLines(Said):
    def test_of_anything(self):
        self.no(*JUNK)
        self.no(("tell", "folk"), ["tell folk"], b"tell folk", None, 0, True, Odd())

    def test_no_form(self):
        self.no("", " ", "zebra", "tell", "tell ", " tell folk", "tell  folk", "tell folk ", "tell folk folk",
                "Tell folk",
                "tell\tfolk", "tell folk\n", "\ntell folk", "tell folk\ntell folk", "tells folk", "TELL folk",
                "tell Folk")
        self.no("count", "count folk 1", "count  folk", "count ", "counts folk")
        self.no("why", "why folk", "why folk ", "why folk  ann", "why folk ann bath", "why  folk ann",
                "why folk ann,bath,cook ")
        self.no("row", "row folk", "row folk ann bath cook", "row folk  ann,bath,cook", "row folk ann,bath,cook ",
                "row ann,bath,cook", "drop", "drop folk", "drop folk ", "drop folk ann ann", "drop towns bath west")
        self.no("back ", " back", "back 1", "Back", "backs", "sheet ", "sheet 1", "sheet folk", " sheet", "sheets")

    def test_no_such_word(self):
        self.no("tell zebra", "tell known", "tell nobody", "tell -", "tell tell", "count zebra", "count known",
                "why zebra ann",
                "why known ann")

    def test_rows_of_no_words(self):
        for row in ("Ann", "ann,", ",ann", ",", "ann,,cook", "ninesigns", "ann.bath", "ann;bath", "-ann", "ann*1",
                    "-", "ann\n"):
            self.no(f"why folk {row}", f"why others {row}", f"row folk {row}", f"drop folk {row}")

    def test_breaks(self):
        self.no("breaks", "breaks ", "breaks folk", "breaks of", "breaks of zebra", "breaks of cooks",
                "breaks of others",
                "breaks join of folk of cooks", "breaks  of folk", "breaks of folk ", "breaks of  folk",
                "breaks of folk of folk",
                "breaks columns 1 land of folk", "breaks columns 2 job job of folk", "breaks columns 0 of folk",
                "breaks columns 01 job of folk", "breaks union of folk of towns", "breaks rows 1 is land west of folk",
                "breaks called 1 job name of folk", "breaks " + written(rows_deep(9)),
                "breaks " + written(rows_deep(16)),
                "breaks " + written(rows_deep(17)), "breaks of folk\n")


if __name__ == "__main__":
    unittest.main()
