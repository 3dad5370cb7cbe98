import random
import unittest

from lookback.asks import is_way
from lookback.changes import cost_of
from lookback.leading import lead_back
from lookback.papers import shows_none, shows_two, shows_way
from lookback.telling import told
from chance import Chance
from oracle import all_ways, how_many_fillings, is_right_paper
from samples import JUNK, Odd, as_lists, nested, shown, with_junk

SCHEMA = (("s", (("c", ("z",)),), 1), ("t", (("k", ("p", "q")), ("v", ("x", "y"))), 1))
T = ("of", "t")
PX, PY, QX, QY = ("p", "x"), ("p", "y"), ("q", "x"), ("q", "y")
P, Q = ("p",), ("q",)


class Papers(unittest.TestCase):
    filling = ((), (PX,))
    rules = ()
    stays = ()
    look = T
    ask = ((), ())

    def case(self):
        return (SCHEMA, self.filling, self.rules, self.stays, self.look, self.ask)


class Way(Papers):
    """p has to be y: 1, where q can only be as it is."""

    ask = ((PX,), (PY,))
    change = (("t", P, PX, PY),)
    paper = (("turn", "t", P, ((PX, 1), (PY, 2))), ("row", PX), ("way",))

    def taken(self, paper):
        self.assertIs(shows_way(*self.case(), self.change, paper), True, shown(paper))

    def refused(self, paper, change=change):
        self.assertIs(shows_way(*self.case(), change, paper), False, shown(paper))

    def test_the_told_one(self):
        answer = lead_back(*self.case())
        self.assertEqual(answer[:2], ("way", self.change))
        self.taken(answer[2])

    def test_by_hand(self):
        self.taken(self.paper)
        self.taken((self.paper[0], ("row", PY), ("way",)))

    def test_other_orders(self):
        self.taken((("turn", "t", P, ((PY, 2), (PX, 1))), ("row", PX), ("way",)))
        self.taken((("turn", "t", P, ((PY, 1), (PX, 2))), ("way",), ("row", PX)))
        self.taken((("turn", "t", P, ((PX, 2), (PY, 1))), ("way",), ("row", PX)))

    def test_turns_that_are_not_needed(self):
        self.taken((("turn", "t", Q, ((None, 1),)), ("turn", "t", P, ((PX, 2), (PY, 3))), ("row", PX), ("way",)))
        self.taken((("turn", "t", P, ((PX, 1), (PY, 2))), ("turn", "t", Q, ((None, 3),)),
                    ("turn", "t", Q, ((None, 4),)), ("row", PX), ("way",)))
        self.taken((("turn", "s", ("z",), ((None, 1), (("z",), 2))), ("turn", "t", P, ((PX, 3), (PY, 4))),
                    ("row", PY), ("row", PX), ("way",)))

    def test_a_way_where_all_else_is_left_undecided(self):
        self.ask = ((), ())
        self.assertIs(shows_way(*self.case(), (), (("way",),)), True)
        self.assertIs(shows_way(*self.case(), (), (("turn", "t", Q, ((None, 1),)), ("way",))), True)
        self.assertIs(shows_way(*self.case(), (), ()), False)
        self.assertIs(shows_way(*self.case(), (), (("row", PX),)), False)

    def test_node_left_out_or_one_more(self):
        turn, row, way = self.paper
        self.refused(())
        self.refused((turn,))
        self.refused((turn, row))
        self.refused((turn, way))
        self.refused((row, way))
        self.refused((way,))
        self.refused((row,))
        self.refused(self.paper + (row,))
        self.refused(self.paper + (way,))
        self.refused((turn, row, way, turn, row, way))

    def test_named_twice_or_not_at_all(self):
        row, way = self.paper[1:]
        self.refused((("turn", "t", P, ((PX, 1), (PY, 1))), row, way))
        self.refused((("turn", "t", P, ((PX, 2), (PY, 2))), row, way))
        self.refused((("turn", "t", P, ((PX, 1), (PY, 1))), row))
        self.refused((("turn", "t", P, ((PX, 1), (PY, 1))), way))
        self.refused((("turn", "t", P, ((PY, 1), (PX, 1))), row))
        self.refused((("turn", "t", P, ((PX, 1), (PY, 2))), ("turn", "t", Q, ((None, 2),)), row))
        self.refused((("turn", "t", P, ((PX, 2), (PY, 1))), ("turn", "t", Q, ((None, 2),)), way))
        self.refused((("turn", "t", P, ((PX, 1), (PY, 3))), row, way))
        self.refused((("turn", "t", P, ((PX, 1), (PY, 3))), row, row, way))
        self.refused((("turn", "t", Q, ((None, 2),)), ("turn", "t", P, ((PX, 2), (PY, 3))), row, way))

    def test_named_by_itself_or_one_behind_or_beyond(self):
        row, way = self.paper[1:]
        self.refused((("turn", "t", P, ((PX, 0), (PY, 1))), way))
        self.refused((("turn", "t", P, ((PX, -1), (PY, 1))), way))
        self.refused((("turn", "t", P, ((PX, 1), (PY, 2))), row))
        self.refused((("turn", "t", Q, ((None, 2),)), row, ("turn", "t", P, ((PX, 1), (PY, 3))), way))
        self.refused((("turn", "t", Q, ((None, 1),)), ("turn", "t", P, ((PX, 1), (PY, 2))), way))
        self.refused((("turn", "t", Q, ((None, 1),)), ("turn", "t", P, ((PX, 2), (PY, 0))), row))

    def test_numbers_turned_about(self):
        self.refused((("turn", "t", P, ((PX, 2), (PY, 1))), ("row", PX), ("way",)))

    def test_no_whole_numbers(self):
        row, way = self.paper[1:]
        for number in (True, "1", None, (1,), b"1", [1], Odd()):
            self.refused((("turn", "t", P, ((PX, number), (PY, 2))), row, way))
        self.refused((("turn", "t", P, ((PX, False), (PY, True))), way))

    def test_branches(self):
        row, way = self.paper[1:]
        self.refused((("turn", "t", P, ((PY, 1),)), way))
        self.refused((("turn", "t", P, ((PX, 1),)), row))
        self.refused((("turn", "t", P, ()),))
        self.refused((("turn", "t", P, ((PX, 1), (PY, 2), (PX, 3))), row, way, row))
        self.refused((("turn", "t", P, ((PX, 1), (PY, 2), (PY, 3))), row, way, way))
        self.refused((("turn", "t", P, ((PX, 1), (PY, 2), (None, 3))), row, way, row))
        self.refused((("turn", "t", P, ((PX, 1), (QY, 2))), row, way))
        self.refused((("turn", "t", P, ((PX, 1), (PY, 2), (QX, 3))), row, way, row))
        self.refused((("turn", "t", P, ((PX, 1), (("p", "z"), 2))), row, way))
        self.refused((("turn", "t", P, ((1, PX), (2, PY))), row, way))
        self.refused((("turn", "t", P, ((PX, 1, 1), (PY, 2))), row, way))
        self.refused((("turn", "t", P, ((PX,), (PY, 2))), row, way))
        self.refused((("turn", "t", P, (PX, 1)), row, way))

    def test_turn_at_what_there_may_not_be_or_is_decided(self):
        row, way = self.paper[1:]
        for name, key in (("t", ("r",)), ("t", ()), ("t", ("p", "x")), ("u", P), ("s", P), ("t", "p"), ("", P)):
            self.refused((("turn", name, key, ((PX, 1), (PY, 2))), row, way))
            self.refused((("turn", name, key, ((None, 1),)),) + (
                ("turn", "t", P, ((PX, 2), (PY, 3))), row, way))
        self.refused((self.paper[0], row, ("turn", "t", P, ((PY, 3),)), way))
        self.refused((self.paper[0], row, ("turn", "t", P, ((PX, 3), (PY, 4))), row, way))
        self.refused((("turn", "t", Q, ((None, 1),)), ("turn", "t", Q, ((None, 2),)),
                      ("turn", "t", P, ((PX, 3), (PY, 4))), row, way))

    def test_ends(self):
        turn, row, way = self.paper
        self.refused((turn, way, way))
        self.refused((turn, row, row))
        self.refused((turn, ("row", QX), way))
        self.refused((turn, ("row", ("zebra", "x")), way))
        self.refused((turn, ("row", ("p",)), way))
        self.refused((turn, ("row", ()), way))
        self.refused((turn, ("row", PX, PX), way))
        self.refused((turn, ("row",), way))
        self.refused((turn, (), way))
        self.refused((turn, ("rule", 0), way))
        self.refused((turn, ("rows", PX), way))
        self.refused((turn, row, ("way", ())))
        self.refused((turn, row, ("ways",)))
        self.refused((turn, row, "way"))
        self.refused((("turn", "t", P), row, way))
        self.refused((turn + ((),), row, way))
        self.refused((("turns",) + turn[1:], row, way))

    def test_row_that_is_as_asked_and_may_be_or_not_asked_and_not_sure(self):
        self.refused((("row", PX),))
        self.refused((("row", PY),))
        self.refused((("turn", "t", Q, ((None, 1),)), ("row", PX)))

    def test_way_where_another_change_is_decided(self):
        other = (("t", P, PX, PY), ("t", Q, None, QX))
        self.refused(self.paper, other)
        self.refused(self.paper, ())
        self.refused((("turn", "t", P, ((PX, 1), (PY, 2))), ("way",), ("row", PX)))

    def test_a_change_that_is_not_the_least(self):
        self.look = ("columns", T, ("v",))
        self.ask = ((("x",),), ())
        gone = (("t", P, PX, None),)
        least = lead_back(*self.case())
        self.assertEqual(least[:2], ("way", gone))
        self.look = ("rows", T, (("is", "v", "x"),))
        self.ask = ((PX,), ())
        self.assertEqual(lead_back(*self.case())[:2], ("way", self.change))
        nodes = (("turn", "t", P, ((PX, 1), (PY, 2), (None, 3))), ("row", PX))
        for end in (("way",), ("row", PX), ("row", PY), ("rule", 0)):
            for other in (("way",), ("row", PX), ("row", PY)):
                self.refused(nodes + (end, other), gone)
        self.taken((("turn", "t", P, ((PX, 1), (PY, 2))), ("row", PX), ("way",)))

    def test_bound_is_just_the_cost(self):
        self.filling = ((), (PX, QX))
        self.refused((("turn", "t", P, ((PX, 1), (PY, 2), (None, 3))), ("row", PX), ("way",), ("row", PY)))
        # Where p is y nothing is left for q, but ahead of that there is 1.
        self.ask = ((PX,), (PY,))
        self.taken((("turn", "t", Q, ((QX, 1), (QY, 2))), ("turn", "t", P, ((PX, 3), (PY, 4))), ("row", QX),
                    ("row", PX), ("way",)))
        self.refused((("turn", "t", P, ((PX, 1), (PY, 2))), ("row", PX), ("turn", "t", Q, ((QX, 3), (QY, 4))),
                      ("way",), ("row", QX)))
        self.taken((("turn", "t", P, ((PX, 1), (PY, 2))), ("row", PX), ("turn", "t", Q, ((QX, 3),)), ("way",)))

    def test_stays_are_kept(self):
        self.stays = (("t", "v"),)
        self.refused(self.paper)
        self.assertEqual(lead_back(*self.case())[0], "never")

    def test_lists(self):
        for thing in as_lists(self.paper):
            self.refused(thing)
        for thing in as_lists(self.change):
            self.refused(self.paper, thing)

    def test_anything(self):
        for thing in JUNK + (nested(60, lambda part: ("turn", "t", P, part)), nested(60, lambda part: (part, 1))):
            self.refused(thing)
            self.refused((thing,))
            self.refused(self.paper, thing)
            self.refused((thing,) + self.paper[1:])
        for thing in with_junk(self.paper, lambda part, junk: part == 1 and self.is_one(junk)):
            self.refused(thing)
        for thing in with_junk(self.change):
            self.refused(self.paper, thing)

    def is_one(self, junk):
        return isinstance(junk, int) and not isinstance(junk, bool) and junk == 1


class PaperOfTwo(Papers):
    """p or q has to be y: 1; so none costs 0."""

    filling = ((), (PX, QX))
    look = ("columns", T, ("v",))
    ask = ((), (("y",),))
    one = (("t", P, PX, PY),)
    other = (("t", Q, QX, QY),)
    paper = (("row", ("y",)),)

    def tells(self, truth, one, other, paper):
        self.assertIs(shows_two(*self.case(), one, other, paper), truth, shown(paper))

    def test_the_told_one(self):
        answer = lead_back(*self.case())
        self.assertEqual(answer[0], "two")
        self.assertEqual({answer[1], answer[2]}, {self.one, self.other})
        self.tells(True, *answer[1:])
        self.tells(True, answer[2], answer[1], answer[3])

    def test_by_hand(self):
        self.tells(True, self.one, self.other, self.paper)
        self.tells(True, self.one, self.other, (("turn", "t", P, ((PX, 1),)), ("row", ("y",))))
        self.tells(True, self.other, self.one, (("turn", "s", ("z",), ((None, 1),)), ("row", ("y",))))

    def test_papers_that_are_none(self):
        for paper in ((), (("way",),), (("row", ("x",)),), (("row", ("zebra",)),), (("rule", 0),),
                      (("turn", "t", P, ((PX, 1), (PY, 2))), ("row", ("y",)), ("way",)),
                      (("turn", "t", P, ((PX, 1),)), ("way",)), self.paper * 2):
            self.tells(False, self.one, self.other, paper)

    def test_changes_that_are_none(self):
        both = (("t", P, PX, PY), ("t", Q, QX, QY))
        self.tells(False, self.one, self.one, self.paper)
        self.tells(False, self.one, both, self.paper)
        self.tells(False, self.one, (), self.paper)
        self.tells(False, (), (), self.paper)
        gone = (("t", P, PX, PY), ("t", Q, QX, None))
        self.tells(False, self.one, gone, self.paper)
        # Two dearer ones of like cost, with a cheaper one between.
        self.look = ("rows", T, (("is", "v", "x"),))
        self.ask = ((PX, QX), ())
        half = (("t", P, PX, PY), ("t", Q, QX, None))
        rest = (("t", P, PX, None), ("t", Q, QX, QY))
        self.tells(False, half, rest, (("row", PX),))
        self.tells(False, half, rest, (("turn", "t", P, ((PX, 1), (PY, 2), (None, 3))), ("row", PX),
                                       ("turn", "t", Q, ((QX, 4), (QY, 5))), ("row", QX), ("row", QX), ("row", QX)))

    def test_unlike_costs_and_an_end_way(self):
        self.ask = ((("x",),), (("y",),))
        self.assertEqual(lead_back(*self.case())[:2], ("way", self.one + self.other))
        self.look = ("rows", ("columns", T, ("v",)), (("is", "v", "y"),))
        self.ask = ((), (("y",),))
        self.tells(True, self.one, self.other, self.paper)
        both = self.one + self.other
        self.assertIs(is_way(*self.case(), both), True)
        self.tells(False, self.one, both, self.paper)
        self.tells(False, both, self.one, self.paper)
        for one, other in ((self.one, self.other), (self.other, self.one)):
            self.tells(False, one, other, (("turn", "t", P, ((PX, 1), (PY, 2))), ("row", ("y",)), ("way",)))
            self.tells(False, one, other, (("way",),))

    def test_anything(self):
        for thing in JUNK:
            self.tells(False, thing, self.other, self.paper)
            self.tells(False, self.one, thing, self.paper)
            self.tells(False, thing, thing, self.paper)
            self.tells(False, self.one, self.other, thing)
            self.tells(False, thing, thing, thing)
        for thing in as_lists(self.paper):
            self.tells(False, self.one, self.other, thing)
        for thing in as_lists(self.one):
            self.tells(False, thing, self.other, self.paper)
        for thing in with_junk(self.paper):
            self.tells(False, self.one, self.other, thing)


class PaperOfNone(Papers):
    """q has to come, which a rule bars; rows of q cost 2 and 3, but there is no bound."""

    look = ("columns", T, ("k",))
    ask = ((), (("q",),))
    rules = (("nor", ("rows", T, (("is", "k", "r"),))), ("noq", ("rows", T, (("is", "k", "q"),))))
    paper = (("turn", "t", Q, ((None, 1), (QX, 2), (QY, 3))), ("row", ("q",)), ("rule", 1), ("rule", 1))

    def tells(self, truth, paper):
        self.assertIs(shows_none(*self.case(), paper), truth, shown(paper))

    def test_the_told_one(self):
        answer = lead_back(*self.case())
        self.assertEqual(answer[:3], ("barred", "noq", (("t", Q, None, QX),)))
        self.tells(True, answer[3])

    def test_by_hand(self):
        self.tells(True, self.paper)
        turn, row, rule = self.paper[:3]
        self.tells(True, (("turn", "t", Q, ((QY, 3), (None, 2), (QX, 1))), rule, row, rule))
        more = ("turn", "t", P, ((PX, 4), (PY, 5), (None, 6)))
        self.tells(True, (turn, row, rule, more, rule, rule, rule))

    def test_without_an_end_way(self):
        turn, row, rule = self.paper[:3]
        self.tells(False, (turn, row, ("way",), rule))
        self.tells(False, (("way",),))

    def test_branches_without_bound(self):
        turn, row, rule = self.paper[:3]
        self.tells(False, (("turn", "t", Q, ((None, 1), (QX, 2))), row, rule))
        self.tells(False, (("turn", "t", Q, ((None, 1),)), row))
        self.tells(False, (("turn", "t", Q, ((QX, 1), (QY, 2))), rule, rule))

    def test_rules(self):
        turn, row, rule = self.paper[:3]
        for k in (0, 2, -1, True, "1", None, (1,), 1000, -2):
            self.tells(False, (turn, row, ("rule", k), rule))
        # A rule that needn't be broken, here or at the top.
        self.tells(False, (turn, rule, rule, rule))
        self.tells(False, (("rule", 1),))
        self.tells(False, (turn, row, ("rule",), rule))
        self.tells(False, (turn, row, ("rule", 1, 1), rule))
        self.tells(False, (turn, row, row, rule))
        self.rules = self.rules[:1]
        self.tells(False, self.paper)
        self.rules = ()
        self.tells(False, self.paper)

    def test_of_no_rules(self):
        self.rules = ()
        self.look = ("gap", T, T)
        self.ask = ((), (PX,))
        row = ("row", PX)
        turn = ("turn", "t", P, ((None, 1), (PX, 2), (PY, 3)))
        self.tells(True, (turn, row, row, row))
        self.tells(False, (row,))
        self.tells(False, (turn, row, row, ("row", PY)))
        self.ask = ((), (("r", "x"),))
        self.tells(True, (("row", ("r", "x")),))
        self.tells(False, (("row", PX),))

    def test_anything(self):
        for thing in JUNK:
            self.tells(False, thing)
            self.tells(False, (thing,))
            self.tells(False, self.paper[:1] + (thing,) + self.paper[2:])
        for thing in as_lists(self.paper):
            self.tells(False, thing)

        def is_right(part, junk):
            return part == 1 and isinstance(junk, int) and not isinstance(junk, bool) and junk == 1 or \
                part is None and junk is None

        for thing in with_junk(self.paper, is_right):
            self.tells(False, thing)


class Changed:
    """Papers made of a right one by chance, of right forms, but perhaps not right any more."""

    def __init__(self, seed, paper, rows, many_rules):
        self.random = random.Random(seed)
        self.paper = paper
        self.ends = [("row", row) for row in rows] + [("rule", k) for k in range(many_rules + 1)] + [("way",)]

    def paper_by_chance(self):
        pick = self.random
        nodes = list(self.paper)
        at = pick.randrange(len(nodes))
        node = nodes[at]
        kind = pick.randrange(4)
        if kind == 0:
            nodes[at] = pick.choice(self.ends)
        elif kind == 1 and node[0] == "turn":
            branches = list(node[3])
            pick.shuffle(branches)
            nodes[at] = node[:3] + (tuple(branches[pick.randrange(2):]),)
        elif kind == 2 and node[0] == "turn":
            numbers = [number for after, number in node[3]]
            pick.shuffle(numbers)
            nodes[at] = node[:3] + (tuple((after, number) for (after, old), number in zip(node[3], numbers)),)
        else:
            other = pick.randrange(len(nodes))
            nodes[at], nodes[other] = nodes[other], nodes[at]
        return tuple(nodes)


class ManyPapers(unittest.TestCase):
    def test_against_papers_gone_through_as_worded(self):
        seen = {True: 0, False: 0}
        for seed in range(900):
            chance = Chance(seed)
            if how_many_fillings(chance.schema) > 400:
                continue
            filling, other = chance.filling(), chance.filling()
            look, columns = chance.look(seed % 5 + 1)
            rows, others = told(chance.schema, filling, look), told(chance.schema, other, look)
            case = (chance.schema, filling, chance.rules(filling, seed % 4), chance.stays(0.1), look,
                    chance.ask(rows, others))
            answer = lead_back(*case)
            change, bound = None, None
            if answer[0] == "never":
                case = case[:2] + ((),) + case[3:]
            elif answer[0] == "barred":
                many = [word for word, rule in case[2]].index(answer[1]) + 1
                case = case[:2] + (case[2][:many],) + case[3:]
            else:
                bound = cost_of(chance.schema, answer[1]) - (answer[0] == "two")
                change = answer[1] if answer[0] == "way" else None
            changed = Changed(seed, answer[-1], sorted(set(rows + others)), len(case[2]))
            for step in range(6):
                paper = changed.paper_by_chance()
                right = is_right_paper(*case, bound, change, paper)
                self.assertIs(self.shown(case, answer, paper), right, (case, paper))
                seen[right] += 1
        self.assertGreater(min(seen.values()), 100)

    def shown(self, case, answer, paper):
        if answer[0] == "way":
            return shows_way(*case, answer[1], paper)
        if answer[0] == "two":
            return shows_two(*case, answer[1], answer[2], paper)
        return shows_none(*case, paper)

    def test_a_dearer_way_has_no_paper_by_such_changes(self):
        tried = 0
        for seed in range(300):
            chance = Chance(seed)
            if how_many_fillings(chance.schema) > 200:
                continue
            filling, other = chance.filling(), chance.filling()
            look, columns = chance.look(seed % 4 + 1)
            ask = chance.ask(told(chance.schema, filling, look), told(chance.schema, other, look))
            case = (chance.schema, filling, (), (), look, ask)
            ways = all_ways(*case)
            for cost, change in ways[1:4]:
                paper = lead_back(*case)[-1]
                self.assertIs(shows_way(*case, change, paper), False)
                self.assertIs(shows_way(*case, change, (("way",),)), False)
                self.assertIs(shows_none(*case, paper), False)
                tried += 1
        self.assertGreater(tried, 30)


if __name__ == "__main__":
    unittest.main()
