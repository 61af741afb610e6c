"""Points 18 to 20 as far as they say when a line is right, and point 3 as far as it touches them."""

import copy
import itertools
import random
import unittest

from helping import equal_by_hand, fields, learnt_by_hand, random_terms
from yesorno.lines import is_equal, is_learnt
from yesorno.problems import Problem
from yesorno.reading import read


class Learnt(unittest.TestCase):
    def check(self, rows, parts, hints, right):
        kept = copy.deepcopy(rows)
        self.assertIs(is_learnt(rows, parts, hints), right, (rows, parts, hints))
        self.assertEqual(rows, kept)
        self.assertIs(is_learnt(rows, parts, hints), right)

    def test_without_hints_it_is_wrong(self):
        self.check([], (), (), False)
        self.check([()], (), (), False)
        self.check([(1,)], (1,), (), False)

    def test_the_last_hint_fails(self):
        self.check([(1, 2)], (1, 2), (0,), True)
        self.check([(1, 2)], (2, 1), (0,), True)
        self.check([(1, 2)], (1, 2, 3), (0,), True)
        self.check([(1, 2)], (1,), (0,), False)
        self.check([(1, 2)], (1, -2), (0,), False)
        self.check([(1, 2)], (), (0,), False)

    def test_a_row_without_parts(self):
        self.check([()], (), (0,), True)
        self.check([()], (1,), (0,), True)
        self.check([(), (1,)], (), (0, 1), False)
        self.check([(), (1,)], (1,), (0, 1), False)
        self.check([(), (1,)], (), (1, 0), True)

    def test_one_open_part_is_held_from_then_on(self):
        rows = [(1,), (-1, 2), (-2, 3), (-3, -1)]
        self.check(rows, (), (0, 1, 2, 3), True)
        self.check(rows, (), (0, 1, 2), False)
        self.check(rows, (), (1, 0, 2, 3), False)
        self.check(rows, (), (0, 2, 1, 3), False)
        self.check(rows, (3,), (0, 1, 2), True)
        self.check(rows, (2,), (0, 1), True)
        self.check(rows, (1,), (0,), True)
        self.check(rows, (-1,), (1, 2, 3), True)
        self.check(rows, (-1,), (3, 2, 1), True)
        self.check(rows, (-2,), (2, 3), False)
        self.check(rows, (-2, -1), (2, 3), True)

    def test_a_hint_ahead_of_the_last_that_leaves_none_or_two(self):
        self.check([(1,), (1, 2)], (1, 2), (0, 1), False)
        self.check([(1,), (1, 2)], (1,), (0, 1), False)
        self.check([(1, 2), (-1,), (-2,)], (), (0, 1, 2), False)
        self.check([(1, 2), (-1,), (-2,)], (), (1, 0, 2), True)
        self.check([(1, 2), (-1,), (-2,)], (), (2, 1, 0), True)

    def test_a_hint_whose_left_part_is_held_already(self):
        rows = [(1,), (1, 2), (-1,)]
        self.check(rows, (), (0, 0, 2), False)
        self.check(rows, (2,), (0, 1, 2), False)
        self.check(rows, (-1,), (0, 2), False)
        self.check(rows, (2,), (1, 2), True)

    def test_the_last_hint_with_an_open_or_a_held_part(self):
        self.check([(1,), (1, 2)], (2,), (0, 1), False)
        self.check([(1,), (-1, 2)], (), (0, 1), False)
        self.check([(1,), (-1, 2)], (2,), (0, 1), True)

    def test_a_part_counts_once(self):
        self.check([(1, 1), (-1, -1, -1)], (), (0, 1), True)
        self.check([(1, 2, 1), (-1, 3, -1)], (2, 3), (0, 1), True)
        self.check([(1, 2, 1)], (1, 2), (0,), True)

    def test_opposite_parts_in_a_row(self):
        self.check([(1, -1)], (), (0,), False)
        self.check([(1, -1), (-1,)], (), (0, 1), False)
        self.check([(1, -1), (2,)], (1,), (0, 1), False)
        self.check([(1, -1), (1,)], (1,), (0, 1), False)
        self.check([(1, -1)], (1,), (0,), False)
        self.check([(1, -1, 2), (-2,)], (1,), (0, 1), False)

    def test_numbers_that_there_are_not(self):
        self.check([(1,)], (1,), (1,), False)
        self.check([(1,)], (1,), (0, 1), False)
        self.check([(1,), (-1,)], (), (5, 1), False)
        self.check([(1,), (-1,)], (), (0, 2), False)
        self.check([], (), (0,), False)
        self.check([(1,), (-1,)], (), (0, 1), True)
        self.check([(1,), (-1,)], (), (0, -1), False)
        self.check([(1,), (-1,)], (), (-2, 1), False)

    def test_rows_of_lines_ahead(self):
        rows = [(1, 2), (1, -2), (-1, 2), (-1, -2), (1,)]
        self.check(rows[:4], (1,), (0, 1), True)
        self.check(rows, (), (4, 2, 3), True)
        self.check(rows[:4], (), (4, 2, 3), False)

    def test_every_small_one(self):
        rows = [(1,), (-1, 2), (-2, -1), (1, 2), (1, -1), (-2, -2), ()]
        lines = [(), (1,), (-1,), (2,), (-2,), (1, 2), (1, -2), (-2, -1)]
        for length in range(4):
            for hints in itertools.product(range(len(rows) + 1), repeat=length):
                for parts in lines:
                    self.assertIs(is_learnt(rows, parts, hints), learnt_by_hand(rows, parts, hints),
                                  (parts, hints))

    def test_by_chance(self):
        chance = random.Random(19)
        seen = {True: 0, False: 0}
        for count in range(4000):
            rows = [tuple(chance.choice((1, -1)) * atom
                          for atom in chance.sample(range(1, 6), chance.choice((1, 2, 2))))
                    for row in range(9)]
            parts = tuple(chance.choice((1, -1)) * atom for atom in chance.sample(range(1, 6), chance.randrange(4)))
            hints = tuple(chance.randrange(9) for hint in range(chance.randrange(1, 4)))
            right = learnt_by_hand(rows, parts, hints)
            seen[right] += 1
            self.assertIs(is_learnt(rows, parts, hints), right)
        self.assertGreater(min(seen.values()), 100)


def functions():
    """Terms a 0, b 1, c 2, f(a) 3, f(b) 4, f(c) 5, g(a, b) 6, g(b, c) 7, f(a, a) 8; a plain atom 1,
    a = b 2, b = c 3, f(a) = f(b) 4, g(a, b) = g(b, c) 5, a = a 6, f(c) = f(a) 7, a = f(a) 8."""
    problem = Problem()
    for name, parts in (("a", ()), ("b", ()), ("c", ()), ("f", (0,)), ("f", (1,)), ("f", (2,)), ("g", (0, 1)),
                        ("g", (1, 2)), ("f", (0, 0))):
        problem.add_term(name, parts)
    problem.add_plain("p")
    for one, other in ((0, 1), (1, 2), (3, 4), (6, 7), (0, 0), (5, 3), (0, 3)):
        problem.add_same(one, other)
    return problem


class Equal(unittest.TestCase):
    def check(self, parts, links, right, problem=None):
        problem = problem or functions()
        kept = fields(problem)
        self.assertIs(is_equal(problem, parts, links), right, (parts, links))
        self.assertEqual(fields(problem), kept)
        self.assertIs(is_equal(problem, parts, links), right)

    def test_a_link_of_an_atom_in_either_order(self):
        self.check((2, -2), ((0, 1, 2),), True)
        self.check((4, -2), ((0, 1, 2), (3, 4, 0)), True)
        self.check((4, -2), ((1, 0, 2), (4, 3, 0)), True)
        self.check((-7, -2, 4), ((3, 5, 7), (0, 1, 2), (4, 3, 0)), True)
        self.check((-7, -2, 4), ((5, 3, 7), (0, 1, 2), (4, 3, 0)), True)

    def test_an_atom_of_other_terms(self):
        self.check((4, -2), ((0, 2, 2), (3, 4, 0)), False)
        self.check((4, -2, -3), ((0, 1, 3), (3, 4, 0)), False)
        self.check((4, -2), ((3, 4, 2),), False)
        self.check((4, -2), ((0, 0, 2),), False)
        self.check((4, -2), ((1, 1, 2),), False)
        self.check((4, -4), ((3, 3, 4),), False)

    def test_a_plain_atom_joins_nothing(self):
        self.check((2, -1), ((0, 1, 1),), False)
        self.check((1,), (), False)
        self.check((1, -2), ((0, 1, 2),), False)

    def test_the_opposite_must_be_among_the_parts(self):
        self.check((4,), ((0, 1, 2), (3, 4, 0)), False)
        self.check((4, 2), ((0, 1, 2), (3, 4, 0)), False)
        self.check((4, -3), ((0, 1, 2), (3, 4, 0)), False)
        self.check((-2, 4), ((0, 1, 2), (3, 4, 0)), True)
        self.check((4, -3, -2), ((0, 1, 2), (3, 4, 0)), True)

    def test_parts_that_are_joined_by_the_links_ahead(self):
        self.check((4, -2), ((3, 4, 0), (0, 1, 2)), False)
        self.check((4,), ((3, 4, 0),), False)
        self.check((7, -2, -3), ((0, 1, 2), (1, 2, 3), (3, 5, 0)), True)
        self.check((7, -2, -3), ((0, 1, 2), (3, 5, 0), (1, 2, 3)), False)
        self.check((7, -2), ((0, 1, 2), (3, 5, 0)), False)
        self.check((5, -2, -3), ((0, 1, 2), (1, 2, 3), (7, 6, 0)), True)
        self.check((5, -2), ((0, 1, 2), (7, 6, 0)), False)
        self.check((5, -3), ((1, 2, 3), (7, 6, 0)), False)

    def test_other_names_and_counts_of_parts(self):
        self.check((8, -2), ((0, 1, 2), (0, 3, 0)), False)
        self.check((2,), ((0, 1, 0),), False)
        self.check((6,), ((3, 8, 0),), False)
        self.check((6,), ((8, 3, 0),), False)
        self.check((6,), ((3, 6, 0),), False)

    def test_a_sameness_of_a_term_with_itself(self):
        self.check((6,), (), True)
        self.check((6, 1, -2), (), True)
        self.check((-6,), (), False)
        self.check((6, -6), ((0, 0, 6),), True)
        self.check((6,), ((0, 0, 6),), False)
        self.check((6, -3), ((0, 0, 0),), True)

    def test_no_part_says_what_is_joined(self):
        self.check((), (), False)
        self.check((-2,), ((0, 1, 2),), False)
        self.check((3, -2), ((0, 1, 2),), False)
        self.check((-4, -2), ((0, 1, 2), (3, 4, 0)), False)
        self.check((2,), (), False)
        self.check((), ((0, 0, 0),), False)

    def test_one_of_several_parts_says_it(self):
        self.check((3, 5, 4, -2), ((0, 1, 2), (3, 4, 0)), True)
        self.check((4, 5, 3, -2), ((0, 1, 2), (3, 4, 0)), True)
        self.check((3, 5, -2), ((0, 1, 2), (3, 4, 0)), False)

    def test_links_may_join_what_is_joined(self):
        self.check((4, -2), ((0, 1, 2), (1, 0, 2), (0, 0, 0), (3, 4, 0), (4, 3, 0), (3, 3, 0)), True)
        self.check((4, -2, -7), ((0, 1, 2), (3, 4, 0), (5, 3, 7)), True)

    def test_each_link_must_be_right(self):
        self.check((4, -2), ((0, 1, 2), (3, 4, 0), (0, 2, 0)), False)
        self.check((4, -2), ((0, 1, 2), (3, 4, 0), (1, 2, 3)), False)
        self.check((6,), ((0, 1, 0),), False)
        self.check((6,), ((1, 2, 3),), False)

    def test_numbers_that_there_are_not(self):
        self.check((6,), ((9, 9, 0),), False)
        self.check((6,), ((0, 9, 0),), False)
        self.check((6,), ((50, 0, 0),), False)
        self.check((6, -2), ((0, 1, 9),), False)
        self.check((6, -2), ((0, 1, 99),), False)
        self.check((6, -2), ((9, 1, 2),), False)
        self.check((6,), ((8, 8, 0),), True)
        self.check((6, -9), ((0, 1, 9),), False)
        self.check((9, -2), ((0, 1, 2),), False)
        self.check((6,), ((-1, 8, 0),), False)
        self.check((6,), ((8, -1, 0),), False)

    def test_more_atoms_than_terms(self):
        problem = read("p or q or r or s or a = b or t\n")
        self.check((5, -5), ((1, 0, 5),), True, problem)
        self.check((5, -6), ((1, 0, 6),), False, problem)

    def test_a_way_by_several_links(self):
        problem = read("a = b or b = c or c = d or a = d\n")
        links = ((2, 3, 3), (0, 1, 1), (1, 2, 2))
        self.check((-3, 4, -1, -2), links, True, problem)
        self.check((-3, 4, -1, -2), links[:2], False, problem)
        self.check((4, -1, -2), links, False, problem)

    def test_by_chance(self):
        chance = random.Random(20)
        seen = {True: 0, False: 0}
        for count in range(3000):
            problem = Problem()
            for name, parts in random_terms(chance, 6, "abf"):
                problem.add_term(name, parts)
            problem.add_plain("p")
            for atom in range(5):
                problem.add_same(chance.randrange(6), chance.randrange(6))
            atoms = range(1, len(problem.atoms) + 1)
            parts = tuple(chance.choice((1, -1, -1)) * atom for atom in chance.sample(atoms, len(atoms) - 1))
            links = []
            for link in range(chance.randrange(1, 4)):
                how = chance.choice(atoms)
                if problem.atoms[how - 1][0] == "same" and chance.randrange(3):
                    pair = list(problem.atoms[how - 1][1:])
                    chance.shuffle(pair)
                    links.append((pair[0], pair[1], how))
                else:
                    links.append((chance.randrange(6), chance.randrange(6), 0))
            right = equal_by_hand(problem, parts, links)
            seen[right] += 1
            self.assertIs(is_equal(problem, parts, tuple(links)), right, (problem.terms, problem.atoms, parts, links))
        self.assertGreater(min(seen.values()), 100)


if __name__ == "__main__":
    unittest.main()
