import unittest

from lookback.halves import may, sure, table_levels
from lookback.levels import levels_of
from lookback.scenes import Scene, decided_change, end_at, spot_behind, that_can_be_at, top_spot
from lookback.telling import told
from lookback.trees import end_behind, wrong_rows
from lookback.turns import Hanging, places_of_wrong
from chance import Chance


class Spots(unittest.TestCase):
    """Spots made one of another have just the levels that they would have made anew."""

    def scenes(self, many):
        for seed in range(many):
            chance = Chance(seed)
            filling, other = chance.filling(), chance.filling()
            look, columns = chance.look(seed % 6 + 1)
            rules = chance.rules(filling, 2)
            ask = chance.ask(told(chance.schema, filling, look), told(chance.schema, other, look))
            yield chance, (chance.schema, filling, rules, chance.stays(0.1), look, ask)

    def walk(self, chance, scene, bound):
        """Spots behind one another, each with how it was come to, by chance."""
        spot = top_spot(scene, bound)
        yield None, None, spot
        for step in range(5):
            free = [(name, key) for name, stand in scene.stands.items() for key in stand
                    if key not in spot.decided.get(name, {})]
            if not free:
                return
            name, key = chance.random.choice(free)
            cost, after = chance.random.choice(that_can_be_at(scene, spot, name, key))
            behind = spot_behind(scene, spot, name, key, cost, after)
            yield spot, (name, key, cost, after), behind
            spot = behind

    def test_levels(self):
        for chance, case in self.scenes(150):
            scene = Scene(*case)
            for bound in (None, 2, 4, 7):
                for spot, branch, behind in self.walk(chance, scene, bound):
                    tables = {name: table_levels(scene.stands[name], behind.decided.get(name, {}), behind.left)
                              for name in scene.used}
                    self.assertEqual(behind.tables, tables)
                    for plan, sight in zip(scene.plans, behind.sights):
                        self.assertEqual(sight.levels, levels_of(plan, tables))

    def test_halves(self):
        for chance, case in self.scenes(60):
            scene = Scene(*case)
            for bound in (None, 3):
                for spot, branch, behind in self.walk(chance, scene, bound):
                    decided = tuple(sorted(((name, key, after) for name, afters in behind.decided.items()
                                            for key, after in afters.items()), key=lambda part: part[:2]))
                    levels = behind.sights[0].levels[-1]
                    args = (case[0], case[1], case[3], decided, bound, case[4])
                    self.assertEqual(tuple(sorted(levels)), may(*args))
                    self.assertEqual(tuple(sorted(row for row in levels if levels[row] == 3)), sure(*args))
                    change = decided_change(scene, behind)
                    self.assertEqual(change, tuple(sorted(change, key=lambda part: part[:2])))
                    self.assertTrue(all(before != after for name, key, before, after in change))

    def test_ends(self):
        ended = 0
        for chance, case in self.scenes(200):
            scene = Scene(*case)
            for bound in (None, 2, 5):
                for spot, branch, behind in self.walk(chance, scene, bound):
                    if spot is None:
                        continue
                    if end_at(scene, spot) is not None:
                        break
                    end = end_behind(scene, spot, *branch)
                    self.assertEqual(end is None, end_at(scene, behind) is None)
                    ended += end is not None
        self.assertGreater(ended, 100)

    def test_wrong_rows_hang_on_what_is_not_decided(self):
        tried = 0
        for chance, case in self.scenes(1200):
            scene = Scene(*case)
            for bound in (None, 3, 6):
                for spot, branch, behind in self.walk(chance, scene, bound):
                    if end_at(scene, behind) is not None:
                        break
                    for number, row in wrong_rows(scene, behind):
                        places = places_of_wrong(Hanging(scene, behind, number), row)
                        self.assertTrue(places)
                        for name, key in places:
                            self.assertNotIn(key, behind.decided.get(name, {}))
                            self.assertGreater(len(that_can_be_at(scene, behind, name, key)), 1)
                        self.kept(scene, behind, number, row, places)
                        tried += 1
        self.assertGreater(tried, 50)

    def kept(self, scene, spot, number, row, places):
        """Where all these places are decided to be as before, nothing mends the row any more."""
        there = spot.sights[number].levels[-1][row] >= 2
        for name, key in places:
            spot = spot_behind(scene, spot, name, key, 0, scene.stands[name][key][0][1])
        self.assertEqual(spot.sights[number].levels[-1].get(row, 0), 3 if there else 0)


if __name__ == "__main__":
    unittest.main()
