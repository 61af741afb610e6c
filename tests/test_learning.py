"""Points 22 and 23, and point 3 as far as it touches them."""

import copy
import random
import unittest

from helping import learnt_by_hand
from yesorno.learning import learnt
from yesorno.units import grown, levels


def by_hand(rows, trail, fails):
    """What 22 and 23 say, word by word."""
    level = dict(zip((part for part, why in trail), levels(trail)))
    last = level[trail[-1][0]] if trail else 0
    kept = set(rows[fails])
    hints = [fails]
    for part, why in reversed(trail):
        if -part in kept and why != -1:
            others = [other for other in kept if other != -part and level[-other] == last]
            if level[part] == 0 or (level[part] == last and others):
                kept = (kept - {-part}) | {other for other in rows[why] if other != part}
                hints.insert(0, why)
    parts = tuple(-part for part, why in reversed(trail) if -part in kept)
    return (parts, tuple(hints), max([0] + [level[-part] for part in parts[1:]]))


class Learnt(unittest.TestCase):
    def check(self, rows, trail, fails, wanted=None):
        kept = copy.deepcopy((rows, trail))
        told = learnt(rows, trail, fails)
        self.assertEqual((rows, trail), kept)
        self.assertEqual(told, by_hand(rows, trail, fails))
        if wanted is not None:
            self.assertEqual(told, wanted)
        self.assertEqual([type(thing) for thing in (told,) + told], [tuple, tuple, tuple, int])
        self.assertEqual(learnt(rows, trail, fails), told)
        parts, hints, level = told
        self.assertTrue(learnt_by_hand(rows, parts, hints))
        at = dict(zip((part for part, why in trail), levels(trail)))
        last = max(at.values(), default=0)
        if last == 0:
            self.assertEqual((parts, level), ((), 0))
        else:
            self.assertEqual([part for part in parts if at[-part] == last], [parts[0]])
            self.assertLess(level, last)

    def grow(self, rows, chosen):
        """The trail as it grows, with these chosen one behind the other where they are open."""
        trail, fails = grown(rows, [])
        for part in chosen:
            held = [part for part, why in trail]
            if fails is None and part not in held and -part not in held:
                trail, fails = grown(rows, trail + [(part, -1)])
        return trail, fails

    def test_a_row_without_parts(self):
        self.check([()], [], 0, ((), (0,), 0))
        self.check([(1,), ()], [(1, 0)], 1, ((), (1,), 0))

    def test_without_chosen_parts(self):
        self.check([(1,), (-1,)], [(1, 0)], 1, ((), (0, 1), 0))
        rows = [(1,), (-1, 2), (-2, -1, 3), (-3, -1)]
        self.check(rows, [(1, 0), (2, 1), (3, 2)], 3, ((), (0, 1, 2, 3), 0))

    def test_rows_without_need_are_no_hints(self):
        rows = [(5,), (1,), (6, 7), (-5, 8), (-1,)]
        self.check(rows, [(5, 0), (1, 1), (8, 3)], 4, ((), (1, 4), 0))

    def test_one_chosen_part(self):
        rows = [(-1, 2), (-1, -2)]
        self.check(rows, [(1, -1), (2, 0)], 1, ((-1,), (0, 1), 0))

    def test_the_chosen_part_alone(self):
        self.check([(-1,)], [(1, -1)], 0, ((-1,), (0,), 0))
        self.check([(-1, -1)], [(1, -1)], 0, ((-1,), (0,), 0))

    def test_it_stops_at_the_first_part_that_is_alone_on_its_level(self):
        # 2 is chosen and forces 3, which forces 4 and 5, which do not go together.
        rows = [(-2, 3), (-3, 4), (-3, 5), (-4, -5)]
        trail = [(1, -1), (2, -1), (3, 0), (4, 1), (5, 2)]
        self.check(rows, trail, 3, ((-3,), (1, 2, 3), 0))

    def test_parts_of_levels_between(self):
        rows = [(-1, -3, 4), (-2, -3, 5), (-4, -5, -6), (8,)]
        trail = [(8, 3), (6, -1), (1, -1), (2, -1), (3, -1), (4, 0), (5, 1)]
        self.check(rows, trail, 2, ((-3, -2, -1, -6), (0, 1, 2), 3))
        trail = [(8, 3), (2, -1), (6, -1), (1, -1), (7, -1), (3, -1), (4, 0), (5, 1)]
        self.check(rows, trail, 2, ((-3, -1, -6, -2), (0, 1, 2), 3))

    def test_forced_parts_of_levels_between_stay(self):
        rows = [(-1, 2), (-3, 4), (-2, -3, -4)]
        trail = [(1, -1), (2, 0), (3, -1), (4, 1)]
        self.check(rows, trail, 2, ((-3, -2), (1, 2), 1))

    def test_parts_forced_without_choice_are_always_put_in(self):
        rows = [(9,), (-9, 8), (-8, -1, 2), (-1, -2, -9)]
        trail = [(9, 0), (8, 1), (1, -1), (2, 2)]
        self.check(rows, trail, 3, ((-1,), (0, 1, 2, 3), 0))
        rows = [(9,), (-9, -1)]
        self.check(rows, [(9, 0), (1, -1)], 1, ((-1,), (0, 1), 0))

    def test_the_part_that_is_alone_may_be_forced(self):
        rows = [(-1, 2), (-2, -5)]
        self.check(rows, [(5, -1), (1, -1), (2, 0)], 1, ((-2, -5), (1,), 1))

    def test_the_order_of_hints(self):
        rows = [(-4, -3), (-1, 4), (-1, 3)]
        self.check(rows, [(1, -1), (4, 1), (3, 2)], 0, ((-1,), (1, 2, 0), 0))
        self.check(rows, [(1, -1), (3, 2), (4, 1)], 0, ((-1,), (2, 1, 0), 0))

    def test_a_row_put_in_only_once_for_a_part_that_comes_twice(self):
        rows = [(-1, 2), (-2, 3), (-2, 4), (-3, -4, -7)]
        self.check(rows, [(7, -1), (1, -1), (2, 0), (3, 1), (4, 2)], 3, ((-2, -7), (1, 2, 3), 1))

    def test_a_part_twice_in_a_row(self):
        rows = [(-1, 2, 2, -1), (-2, -1, -2)]
        self.check(rows, [(1, -1), (2, 0)], 1, ((-1,), (0, 1), 0))

    def test_rows_of_any_atoms(self):
        rows = [(-1000, 2000), (-1000, -2000, -30)]
        self.check(rows, [(30, -1), (1000, -1), (2000, 0)], 1, ((-1000, -30), (0, 1), 1))

    def test_places_behind_the_row_that_fails(self):
        # Parts that were held, but say nothing of it.
        rows = [(-1, 2), (-1, 5), (-1, -2), (-5, 6)]
        self.check(rows, [(1, -1), (2, 0), (5, 1), (6, 3)], 2, ((-1,), (0, 2), 0))

    def test_as_grown_gives_it(self):
        chance = random.Random(22)
        seen = [0, 0, 0]
        for count in range(6000):
            atoms = chance.randrange(2, 9)
            rows = [tuple(chance.choice((1, -1)) * chance.randrange(1, atoms + 1)
                          for part in range(chance.choice((1, 2, 2, 3, 3, 3, 4))))
                    for row in range(chance.randrange(2, 22))]
            chosen = [chance.choice((1, -1)) * atom for atom in chance.sample(range(1, atoms + 1), atoms)]
            trail, fails = self.grow(rows, chosen)
            if fails is not None:
                self.check(rows, trail, fails)
                seen[min(2, levels(trail)[-1] if trail else 0)] += 1
        self.assertGreater(min(seen), 50)

    def test_what_was_told_stays(self):
        rows = [(-1, 2), (-1, -2)]
        trail = [(1, -1), (2, 0)]
        told = learnt(rows, trail, 1)
        rows.clear()
        trail.clear()
        self.assertEqual(told, ((-1,), (0, 1), 0))


if __name__ == "__main__":
    unittest.main()
