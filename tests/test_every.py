"""Point 38, and points 1 to 3 as far as they touch it."""

import itertools
import random
import unittest

from helping import all_held, fields, holes, problem_of, random_problem, refusal
from yesorno.choices import Choice, chosen, tried
from yesorno.errors import BadPart, TooLong, TooMany
from yesorno.every import every
from yesorno.papers import fault
from yesorno.problems import Problem
from yesorno.reading import read
from yesorno.search import search
from yesorno.trims import part_of


def longer(problem, rows):
    """The problem with these rows behind its own."""
    found = part_of(problem, list(range(len(problem.rows))))
    for row in rows:
        found.add_row(row)
    return found


def by_hand(problem, atoms, most=2000):
    """The tuples one by one, as 38 has them found."""
    told = []
    choices = []
    while True:
        now = longer(problem, [[-part for part in parts] for parts in told])
        word, held = search(now, most)
        if word == "no":
            return told, choices
        told.append(tuple(held[atom - 1] for atom in atoms))
        choices.append(chosen(now, held))


def shape(choice):
    return list(choice.plain.items()), list(choice.tables.items())


class Every(unittest.TestCase):
    def check(self, problem, atoms, wanted=None, most=2000):
        kept = fields(problem), list(atoms)
        told, choices, paper = found = every(problem, atoms, most)
        self.assertEqual((fields(problem), list(atoms)), kept)
        self.assertEqual([type(thing) for thing in (found,) + found], [tuple, list, list, list])
        self.assertTrue(all(type(parts) is tuple for parts in told))
        self.assertEqual(len(set(told)), len(told))
        self.assertEqual([[abs(part) for part in parts] for parts in told], [list(atoms)] * len(told))
        hand = by_hand(problem, atoms, most)
        self.assertEqual(told, hand[0])
        self.assertEqual([shape(choice) for choice in choices], [shape(choice) for choice in hand[1]])
        for parts, choice in zip(told, choices):
            self.assertIsInstance(choice, Choice)
            self.assertIsNone(tried(problem, choice))
            alone = part_of(problem, [])
            for part in parts:
                alone.add_row([part])
            self.assertIsNone(tried(alone, choice))
        self.assertIsNone(fault(longer(problem, [[-part for part in parts] for parts in told]), paper))
        self.assertTrue(1 <= len(paper) <= most)
        if wanted is not None:
            self.assertEqual(sorted(told), sorted(wanted))
        for again in (every(problem, tuple(atoms), most), every(problem, list(atoms), most)):
            self.assertEqual((again[0], again[2]), (told, paper))
        return found

    def test_no_atoms(self):
        self.check(read("p or q\n"), [], [()])
        self.check(read("p or q\n"), (), [()])
        self.check(Problem(), [], [()])
        self.check(read("never\n"), [], [])
        self.check(read("p\nnot p\n"), [], [])

    def test_one_atom(self):
        problem = read("p or q\nnot q or r\nr or p\n")
        self.check(problem, [1], [(1,), (-1,)])
        self.check(problem, [2], [(2,), (-2,)])
        self.check(read("p\nq or r\n"), [1], [(1,)])
        self.check(read("not p\nq or r\n"), [1], [(-1,)])

    def test_all_atoms_in_any_order(self):
        problem = read("p or q\nnot p or r\n")
        for atoms in itertools.permutations((1, 2, 3)):
            wanted = [tuple(held[atom - 1] for atom in atoms) for held in all_held(problem)]
            self.check(problem, list(atoms), wanted)

    def test_some_atoms(self):
        problem = read("p or q or r\nnot p or not q\n")
        self.check(problem, [2, 1], [(-2, -1), (2, -1), (-2, 1)])
        self.check(problem, (3, 1), [(3, 1), (3, -1), (-3, 1), (-3, -1)])

    def test_samenesses(self):
        problem = read("a = b or b = c\na = c or not a = c\n")
        self.check(problem, [1, 2, 3], [(1, 2, 3), (1, -2, -3), (-1, 2, -3)])
        self.check(read("f(a) = f(b) or p\na = b\n"), [1], [(1,)])

    def test_without_a_choice(self):
        self.check(read("p\nnot p\nq or r\n"), [1, 2, 3], [])
        problem = problem_of(atoms=30)
        problem.add_row([])
        self.check(problem, list(range(1, 31)), [])
        problem = problem_of(atoms=3, rows=200)
        self.check(problem, [1, 2], [])

    def test_sixty_four_and_one_more(self):
        problem = problem_of(atoms=7)
        self.assertEqual(len(self.check(problem, [1, 2, 3, 4, 5, 6])[0]), 64)
        self.assertEqual(refusal(every, problem, [1, 2, 3, 4, 5, 6, 7]), TooMany)
        problem.add_row([7])
        self.assertEqual(len(self.check(problem, [7, 6, 5, 4, 3, 2, 1])[0]), 64)
        problem = problem_of(atoms=7)
        for atom in range(1, 7):
            problem.add_row([-7, atom])
        self.assertEqual(refusal(every, problem, [1, 2, 3, 4, 5, 6, 7]), TooMany)
        problem.add_row([1, 2, 3, 4, 5, 6, 7])
        self.assertEqual(len(self.check(problem, [1, 2, 3, 4, 5, 6, 7])[0]), 64)

    def test_rows_too_long(self):
        problem = problem_of(atoms=25)
        for atom in range(1, 26):
            problem.add_row([atom])
        self.check(problem, list(range(1, 21)), [tuple(range(1, 21))])
        self.assertEqual(refusal(every, problem, list(range(1, 22))), TooMany)
        self.assertEqual(refusal(every, problem, list(range(1, 26))), TooMany)

    def test_rows_too_many(self):
        problem = problem_of(atoms=2)
        for count in range(197):
            problem.add_row([1, -1])
        self.assertEqual(refusal(every, problem, [1, 2]), TooMany)
        self.check(problem, [1], [(1,), (-1,)])
        problem.add_row([1, 2])
        self.assertEqual(refusal(every, problem, [1, 2]), TooMany)
        self.check(problem, [2], [(2,), (-2,)])
        problem.add_row([1, 2])
        self.assertEqual(refusal(every, problem, [1]), TooMany)
        self.check(problem, [], [()])
        problem.add_row([1, 2])
        self.assertEqual(len(problem.rows), 200)
        self.assertEqual(refusal(every, problem, []), TooMany)

    def test_atoms_that_are_none_or_stand_twice(self):
        problem = read("p or q\n")
        for atoms in ([0], [3], [-1], [1, 0], [1, 3], [2, -2], [1, 1], [1, 2, 1], (2, 2), [100]):
            self.assertEqual(refusal(every, problem, atoms), BadPart)
        self.assertEqual(refusal(every, Problem(), [1]), BadPart)

    def test_these_ahead_of_any_search(self):
        problem = holes(3, 4)
        self.assertEqual(refusal(every, problem, [1], 1), TooLong)
        self.assertEqual(refusal(every, problem, [1, 1], 1), BadPart)
        self.assertEqual(refusal(every, problem, [1, 0], 1), BadPart)
        self.assertEqual(refusal(every, problem, [13], 1), BadPart)
        many = problem_of(atoms=30)
        self.assertEqual(refusal(every, many, list(range(1, 31)) + [30]), BadPart)

    def test_too_long(self):
        problem = holes(3, 4)
        lines = len(search(problem)[1])
        self.assertEqual(every(problem, [1, 2], lines), ([], [], search(problem)[1]))
        self.assertEqual(refusal(every, problem, [1, 2], lines - 1), TooLong)
        # Here only a later search is too long.
        problem = read("p or q\np or not q or r\n")
        most = 1
        while refusal(by_hand, problem, [1, 2, 3], most) == TooLong:
            self.assertEqual(refusal(every, problem, [1, 2, 3], most), TooLong)
            most += 1
        self.assertGreater(most, 1)
        self.check(problem, [1, 2, 3], most=most)

    def test_by_chance(self):
        chance = random.Random(38)
        for count in range(250):
            problem = random_problem(chance, terms=chance.choice((0, 4)), atoms=5, rows=chance.randrange(8), shortest=2)
            many = len(problem.atoms)
            atoms = chance.sample(range(1, many + 1), chance.randrange(many + 1))
            wanted = {tuple(held[atom - 1] for atom in atoms) for held in all_held(problem)}
            self.check(problem, atoms, wanted)

    def test_what_was_told_stays(self):
        problem = read("p or q\n")
        first = every(problem, [1, 2])
        kept = list(first[0]), [shape(choice) for choice in first[1]], list(first[2])
        problem.add_row([1])
        second = every(problem, [1, 2])
        second[0].clear()
        second[1][0].plain.clear()
        self.assertEqual((first[0], [shape(choice) for choice in first[1]], first[2]), kept)
        again = every(read("p or q\n"), [1, 2])
        self.assertEqual((again[0], [shape(choice) for choice in again[1]], again[2]), kept)


if __name__ == "__main__":
    unittest.main()
