"""Points 15 to 17, and point 3 as far as it touches them."""

import copy
import itertools
import random
import unittest

from yesorno.units import grown, levels


def by_hand(rows, trail):
    """What 16 says, word by word."""
    trail = list(trail)
    while True:
        held = [part for part, why in trail]
        for number, row in enumerate(rows):
            open_ones = {part for part in row if part not in held and -part not in held}
            if not set(row) & set(held) and len(open_ones) <= 1:
                break
        else:
            return (trail, None)
        if not open_ones:
            return (trail, number)
        trail.append((open_ones.pop(), number))


class Grown(unittest.TestCase):
    def check(self, rows, trail):
        kept = copy.deepcopy((rows, trail))
        told = grown(rows, trail)
        self.assertEqual((rows, trail), kept)
        self.assertIs(type(told), tuple)
        self.assertIs(type(told[0]), list)
        self.assertIsNot(told[0], trail)
        self.assertEqual(told, by_hand(rows, trail))
        self.assertEqual(grown(rows, trail), told)
        return told

    def test_nothing(self):
        self.assertEqual(self.check([], []), ([], None))
        self.assertEqual(self.check([], [(3, -1)]), ([(3, -1)], None))
        self.assertEqual(self.check([(1, 2)], []), ([], None))

    def test_a_row_of_one_part(self):
        self.assertEqual(self.check([(4,)], []), ([(4, 0)], None))
        self.assertEqual(self.check([(-4,)], []), ([(-4, 0)], None))

    def test_a_row_without_parts_fails(self):
        self.assertEqual(self.check([()], []), ([], 0))
        self.assertEqual(self.check([(1,), (), (2,)], []), ([(1, 0)], 1))
        self.assertEqual(self.check([(), (1,)], [(2, -1)]), ([(2, -1)], 0))

    def test_one_open_part(self):
        self.assertEqual(self.check([(1, 2, 3)], [(-1, -1), (-3, -1)]), ([(-1, -1), (-3, -1), (2, 0)], None))
        self.assertEqual(self.check([(1, -2)], [(-1, -1)]), ([(-1, -1), (-2, 0)], None))
        self.assertEqual(self.check([(1, 2, 3)], [(-1, -1)]), ([(-1, -1)], None))

    def test_a_held_part(self):
        self.assertEqual(self.check([(1, 2)], [(1, -1)]), ([(1, -1)], None))
        self.assertEqual(self.check([(1, 2), (-2,)], [(1, -1)]), ([(1, -1), (-2, 1)], None))
        self.assertEqual(self.check([(2, 1)], [(1, -1), (-2, -1)]), ([(1, -1), (-2, -1)], None))

    def test_a_row_that_fails(self):
        self.assertEqual(self.check([(1, 2)], [(-2, -1), (-1, -1)]), ([(-2, -1), (-1, -1)], 0))
        self.assertEqual(self.check([(1,), (-1,)], []), ([(1, 0)], 1))
        self.assertEqual(self.check([(5, 6), (1,), (-1, 2), (-2, -1)], []), ([(1, 1), (2, 2)], 3))

    def test_the_first_row_anew_each_time(self):
        rows = [(-3, 4), (-2, 3), (-1, 2), (1,)]
        self.assertEqual(self.check(rows, []), ([(1, 3), (2, 2), (3, 1), (4, 0)], None))
        rows = [(1,), (-1, 2), (3,), (-2, 4), (-1, -3)]
        self.assertEqual(self.check(rows, []), ([(1, 0), (2, 1), (3, 2), (4, 3)], 4))

    def test_an_earlier_row_that_becomes_due_is_taken_first(self):
        # Behind 1 both rows 0 and 2 are due: row 0 fails, so 5 is not forced any more.
        self.assertEqual(self.check([(-1, -2), (1,), (5,)], [(2, -1)]), ([(2, -1), (-1, 0)], 1))
        self.assertEqual(self.check([(-1,), (1,), (5,)], []), ([(-1, 0)], 1))
        self.assertEqual(self.check([(-7, 8), (7,), (9,)], []), ([(7, 1), (8, 0), (9, 2)], None))

    def test_of_two_that_force_the_first_row_tells_why(self):
        self.assertEqual(self.check([(1, 2), (2,), (2, 3)], [(-1, -1)]), ([(-1, -1), (2, 0)], None))

    def test_a_failing_row_ahead_of_one_that_forces_and_behind_it(self):
        self.assertEqual(self.check([(1,), (2,)], [(-1, -1)]), ([(-1, -1)], 0))
        self.assertEqual(self.check([(2,), (1,)], [(-1, -1)]), ([(-1, -1), (2, 0)], 1))

    def test_a_part_twice_counts_once(self):
        self.assertEqual(self.check([(1, 1)], []), ([(1, 0)], None))
        self.assertEqual(self.check([(2, 1, 2, 1, 2)], [(-1, -1)]), ([(-1, -1), (2, 0)], None))
        self.assertEqual(self.check([(1, 1)], [(-1, -1)]), ([(-1, -1)], 0))

    def test_opposite_parts_count_by_themselves(self):
        self.assertEqual(self.check([(1, -1)], []), ([], None))
        self.assertEqual(self.check([(1, -1), (1, 1, -1)], [(2, -1)]), ([(2, -1)], None))
        self.assertEqual(self.check([(1, -1)], [(1, -1)]), ([(1, -1)], None))
        self.assertEqual(self.check([(1, -1, 2)], [(-1, -1)]), ([(-1, -1)], None))

    def test_a_trail_with_any_numbers_of_rows(self):
        trail = [(2, 77), (5, -1), (-3, 0), (9, 123456)]
        self.assertEqual(self.check([(-2, -5, 1)], trail), (trail + [(1, 0)], None))
        self.assertEqual(self.check([(8,), (-2, -5, 3)], trail), (trail + [(8, 0)], 1))

    def test_any_atoms(self):
        self.assertEqual(self.check([(1000, -999)], [(999, -1)]), ([(999, -1), (1000, 0)], None))

    def test_several_hundred_rows(self):
        chain = [(-number, number + 1) for number in range(1, 401)]
        told = self.check(chain, [(1, -1)])
        self.assertEqual(told, ([(1, -1)] + [(number + 1, number - 1) for number in range(1, 401)], None))
        told = self.check(list(reversed(chain[:200])), [(1, -1)])
        self.assertEqual(told[0][-1], (201, 0))
        self.assertEqual(len(told[0]), 201)
        told = self.check([(500, 501)] * 600 + [(500,)], [(-501, -1)])
        self.assertEqual(told, ([(-501, -1), (500, 0)], None))

    def test_every_small_one(self):
        rows = [(), (1,), (-1,), (1, 2), (-1, 2), (1, -2), (-2, -1), (1, -1), (2, 2)]
        trails = [[], [(1, -1)], [(-2, -1)], [(-1, 4), (-2, -1)], [(3, -1), (2, 0)]]
        for taken in itertools.product(rows, repeat=3):
            for trail in trails:
                self.check(list(taken), trail)

    def test_by_chance(self):
        chance = random.Random(16)
        for count in range(500):
            atoms = chance.randrange(1, 12)
            rows = [tuple(chance.choice((1, -1)) * chance.randrange(1, atoms + 1)
                          for part in range(chance.choice((1, 2, 2, 3, 3, 4))))
                    for row in range(chance.randrange(25))]
            held = chance.sample(range(1, atoms + 1), chance.randrange(min(atoms, 4)))
            self.check(rows, [(chance.choice((atom, -atom)), chance.randrange(-1, 5)) for atom in held])

    def test_what_was_told_stays(self):
        rows = [(1,)]
        trail = [(2, -1)]
        told = grown(rows, trail)
        rows.append((3,))
        trail.append((4, -1))
        grown(rows, trail)
        self.assertEqual(told, ([(2, -1), (1, 0)], None))
        told[0].append((9, -1))
        self.assertEqual(grown([(1,)], [(2, -1)]), ([(2, -1), (1, 0)], None))
        nothing = grown([], trail)[0]
        nothing.clear()
        self.assertEqual(trail, [(2, -1), (4, -1)])


class Levels(unittest.TestCase):
    def test_levels(self):
        self.assertEqual(levels([]), [])
        self.assertEqual(levels([(1, -1)]), [1])
        self.assertEqual(levels([(1, 0)]), [0])
        self.assertEqual(levels([(1, 0), (2, 7), (-3, -1), (4, 0), (5, 1), (6, -1), (7, -1), (-8, 900)]),
                         [0, 0, 1, 1, 1, 2, 3, 3])
        self.assertEqual(levels([(-1, -1), (-2, -1), (3, -1)]), [1, 2, 3])

    def test_stays_and_is_new(self):
        trail = [(1, -1), (2, 3)]
        told = levels(trail)
        self.assertEqual(trail, [(1, -1), (2, 3)])
        trail.append((3, -1))
        self.assertEqual(told, [1, 1])
        self.assertEqual(levels(trail), [1, 1, 2])
        told.append(5)
        self.assertEqual(levels(trail), [1, 1, 2])
        self.assertIs(type(told), list)


if __name__ == "__main__":
    unittest.main()
