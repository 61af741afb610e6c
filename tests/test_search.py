"""Point 25, and points 1 to 3 as far as they touch the search."""

import copy
import itertools
import random
import unittest

from helping import (all_held, clashing_atoms, diamonds, fault_by_hand, fields, holes, problem_of, random_problem,
                     refusal)
from yesorno.clashes import clash
from yesorno.errors import ChoiceError, TooLong
from yesorno.papers import lets_by
from yesorno.problems import Problem
from yesorno.reading import read
from yesorno.search import search


class Checked(unittest.TestCase):
    def check(self, problem, wanted=None, most=2000):
        """Searches and looks whether what is told is as 25 has it."""
        kept = fields(problem)
        told = search(problem, most)
        self.assertEqual(fields(problem), kept)
        self.assertIs(type(told), tuple)
        self.assertEqual(len(told), 2)
        if wanted is not None:
            self.assertEqual(told[0], wanted)
        if told[0] == "yes":
            self.check_held(problem, told[1])
        else:
            self.assertEqual(told[0], "no")
            self.check_paper(problem, told[1], most)
        return told

    def check_held(self, problem, held):
        self.assertIs(type(held), tuple)
        self.assertEqual([abs(part) for part in held], list(range(1, len(problem.atoms) + 1)))
        for row in problem.rows:
            self.assertTrue(set(row) & set(held))
        self.assertIsNone(clash(problem, held))
        self.assertEqual(clashing_atoms(problem, held), [])

    def check_paper(self, problem, paper, most):
        self.assertIs(type(paper), list)
        self.assertTrue(1 <= len(paper) <= most)
        self.assertTrue(lets_by(problem, paper))
        self.assertIsNone(fault_by_hand(problem, paper))
        # It is over with the first line without parts.
        self.assertEqual([line[1] for line in paper if line[1] == ()], [()])


class Search(Checked):
    def test_without_atoms(self):
        self.assertEqual(self.check(Problem()), ("yes", ()))
        self.check(read("never\n"), "no")
        self.check(read("never\nnever\n"), "no")

    def test_without_rows(self):
        problem = Problem()
        problem.add_plain("p")
        problem.add_plain("q")
        problem.add_term("a", ())
        problem.add_same(0, 0)
        told = self.check(problem, "yes")
        self.assertEqual(len(told[1]), 3)
        self.assertEqual(told[1][2], 3)

    def test_a_row_without_parts(self):
        self.check(read("p or q\nnever\nnot p\n"), "no")
        self.check(read("p\nnever\n"), "no")
        self.check(read("never\np\nnot p\n"), "no")

    def test_rows_of_one_part(self):
        self.assertEqual(self.check(read("p\nnot q\nr\n")), ("yes", (1, -2, 3)))
        self.check(read("p\nnot p\n"), "no")
        self.check(read("not p\nq\np\n"), "no")
        self.assertEqual(self.check(read("p\np\np\n")), ("yes", (1,)))

    def test_rows_that_force(self):
        self.assertEqual(self.check(read("p\nnot p or q\nnot q or r\n")), ("yes", (1, 2, 3)))
        self.check(read("p\nnot p or q\nnot q or r\nnot r or not p\n"), "no")

    def test_all_rows_of_some_atoms(self):
        for many in (1, 2, 3, 4):
            problem = Problem()
            for name in "pqrs"[:many]:
                problem.add_plain(name)
            rows = list(itertools.product(*((atom, -atom) for atom in range(1, many + 1))))
            for row in rows[:-1]:
                problem.add_row(row)
            self.assertEqual(self.check(problem), ("yes", tuple(range(1, many + 1))))
            problem.add_row(rows[-1])
            self.check(problem, "no")

    def test_opposite_parts_in_a_row(self):
        problem = read("p or not p\nq or not q or r\n")
        self.check(problem, "yes")
        problem.add_row([-1])
        self.assertEqual(self.check(problem)[1][0], -1)
        problem.add_row([1, -2])
        problem.add_row([1, 2])
        self.check(problem, "no")

    def test_samenesses(self):
        self.check(read("a = b\nb = c\nnot a = c\n"), "no")
        self.check(read("a = b\nb = c\na = c\n"), "yes")
        self.check(read("a = b\nnot f(a) = f(b)\n"), "no")
        self.check(read("f(a) = f(b)\nnot a = b\n"), "yes")
        self.check(read("a = b or a = c\nnot f(a) = f(b)\nnot f(a) = f(c)\n"), "no")
        self.check(read("f(f(f(a))) = a\nf(f(f(f(f(a))))) = a\nnot f(a) = a\n"), "no")
        self.check(read("f(f(f(a))) = a\nf(f(f(f(a)))) = b\nnot f(a) = a\n"), "yes")

    def test_a_term_with_itself(self):
        self.check(read("not a = a\n"), "no")
        self.check(read("not a = a or p\n"), "yes")
        self.check(read("not a = a or not b = b\n"), "no")
        self.assertEqual(self.check(read("a = a or p\n"))[1][0], 1)

    def test_plain_atoms_and_samenesses_together(self):
        self.check(read("p or a = b\nnot p or b = a\nnot f(a) = f(b)\n"), "no")
        self.check(read("not p or a = b\np or b = c\nnot f(a) = f(b) or not f(b) = f(c)\n"), "yes")

    def test_things_and_holes(self):
        for many in (1, 2, 3):
            self.check(holes(many, many + 1), "no")
            self.check(holes(many, many), "yes")

    def test_ways_round_diamonds(self):
        for many in (1, 2, 3):
            self.check(diamonds(many), "no")

    def test_all_small_problems_of_rows(self):
        rows = [(1,), (-1, 2), (1, -2), (-2,), (1, 2), (-1, -2), ()]
        for many in range(4):
            for taken in itertools.combinations(rows, many):
                problem = Problem()
                problem.add_plain("p")
                problem.add_plain("q")
                for row in taken:
                    problem.add_row(row)
                self.check(problem, "yes" if all_held(problem) else "no")

    def test_by_chance(self):
        chance = random.Random(25)
        seen = {"yes": 0, "no": 0}
        for count in range(500):
            problem = random_problem(chance, terms=chance.choice((0, 4, 6)), atoms=6, rows=chance.randrange(5, 24))
            wanted = "yes" if all_held(problem) else "no"
            self.check(problem, wanted)
            seen[wanted] += 1
        self.assertGreater(min(seen.values()), 100)

    def test_rows_of_three_parts_by_chance(self):
        chance = random.Random(253)
        seen = {"yes": 0, "no": 0}
        for count in range(400):
            problem = random_problem(chance, terms=chance.choice((0, 4, 7)), atoms=7, rows=chance.randrange(18, 42),
                                     plain=3, shortest=3)
            wanted = "yes" if all_held(problem) else "no"
            self.check(problem, wanted)
            seen[wanted] += 1
        self.assertGreater(min(seen.values()), 100)

    def test_larger_ones(self):
        # Of these it may be refused as too long; what is told is right.
        chance = random.Random(250)
        problems = [holes(4, 5), holes(5, 6), diamonds(8)]
        for count in range(12):
            problems.append(random_problem(chance, terms=30, atoms=40, rows=150, plain=8, shortest=2))
        for rows in (100, 160, 200):
            problem = problem_of(atoms=40)
            for count in range(rows):
                problem.add_row([chance.choice((1, -1)) * atom for atom in chance.sample(range(1, 41), 3)])
            problems.append(problem)
        for problem in problems:
            if refusal(search, problem) != TooLong:
                self.check(problem)


class Most(Checked):
    def problems(self):
        chance = random.Random(251)
        found = [read("never\n"), read("p\nnot p\n"), read("a = b\nnot f(a) = f(b)\n"), holes(3, 4), diamonds(3)]
        while len(found) < 60:
            problem = random_problem(chance, terms=chance.choice((0, 5)), atoms=6, rows=16)
            if not all_held(problem):
                found.append(problem)
        return found

    def test_as_many_lines_as_the_paper_has(self):
        for problem in self.problems():
            word, paper = self.check(problem, "no")
            for most in (len(paper), len(paper) + 1, 100000):
                self.assertEqual(search(problem, most), ("no", paper))
            for less in {1, len(paper) // 2, len(paper) - 1} - {0, len(paper)}:
                self.assertEqual(refusal(search, problem, less), TooLong)
            self.assertEqual(search(problem), ("no", paper))

    def test_most_is_two_thousand(self):
        problem = holes(3, 4)
        self.assertEqual(search(problem), search(problem, 2000))
        self.assertEqual(search(problem, most=2000), search(problem, most=100000))

    def test_what_says_yes_is_the_same_whatever_most_is(self):
        chance = random.Random(252)
        refused = 0
        for count in range(200):
            problem = random_problem(chance, terms=6, atoms=8, rows=12, plain=2)
            told = search(problem)
            if told[0] == "yes":
                before = False
                for most in (1, 2, 3, 5, 9, 2000, 100000):
                    if refusal(search, problem, most) is None:
                        self.assertEqual(search(problem, most), told)
                        before = True
                    else:
                        # With more lines it is refused no more.
                        self.assertFalse(before)
                        refused += 1
        self.assertGreater(refused, 0)

    def test_six_atoms_and_two_thousand_lines(self):
        rows = list(itertools.product(*((atom, -atom) for atom in range(1, 7))))
        problem = Problem()
        for name in "pqrstu":
            problem.add_plain(name)
        for row in rows:
            problem.add_row(row)
        self.check(problem, "no")
        self.check(read("".join(f"a = b or not {one} = {other}\nnot a = b or {other} = {one}\n"
                                for one, other in itertools.combinations("abcd", 2))))
        self.check(holes(2, 3), "no")

    def test_no_line_is_put_where_nothing_fails(self):
        problem = Problem()
        for name in "pqrstuvwxyz":
            problem.add_plain(name)
        self.check(problem, "yes", 1)
        for atom in range(1, 11):
            problem.add_row([atom, -atom - 1])
        self.check(problem, "yes", 1)
        for atom in range(1, 12):
            problem.add_row([atom])
        self.assertEqual(self.check(problem, "yes", 1)[1], tuple(range(1, 12)))

    def test_its_class(self):
        with self.assertRaises(TooLong) as taken:
            search(holes(4, 5), 1)
        self.assertIsInstance(taken.exception, ChoiceError)
        self.assertIsInstance(taken.exception, ValueError)


class Stays(Checked):
    def test_the_same_again(self):
        for problem in (holes(3, 4), diamonds(2), read("p or q\nnot p or a = b\n")):
            kept = copy.deepcopy(search(problem))
            self.assertEqual(search(problem), kept)

    def test_what_was_told_stays(self):
        problem = read("p or q\nnot p or a = b\nnot a = b or q\n")
        first = self.check(problem, "yes")
        kept = copy.deepcopy(first)
        problem.add_row([-2])
        second = self.check(problem, "no")
        paper = list(second[1])
        problem.add_row([1])
        third = self.check(problem, "no")
        self.assertEqual(first, kept)
        self.assertEqual(second[1], paper)
        third[1].clear()
        self.assertEqual(second[1], paper)
        self.check(problem, "no")

    def test_the_paper_is_the_askers_own(self):
        problem = holes(2, 3)
        paper = search(problem)[1]
        kept = list(paper)
        paper.append(None)
        self.assertEqual(search(problem)[1], kept)

    def test_asked_again_behind_a_row_more(self):
        problem = Problem()
        for name in "pqr":
            problem.add_plain(name)
        held = self.check(problem, "yes")[1]
        seen = []
        while held is not None:
            self.assertNotIn(held, seen)
            seen.append(held)
            problem.add_row([-part for part in held])
            told = self.check(problem)
            held = told[1] if told[0] == "yes" else None
        self.assertEqual(len(seen), 8)


if __name__ == "__main__":
    unittest.main()
