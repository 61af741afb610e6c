"""Points 18 to 21, and points 2 and 3 as far as they touch papers."""

import copy
import random
import unittest

from helping import all_held, fault_by_hand, fields, random_problem
from yesorno.papers import fault, lets_by
from yesorno.problems import Problem
from yesorno.reading import read

# p 1, q 2, a = b 3, f(a) = f(b) 4; terms a 0, b 1, f(a) 2, f(b) 3.
ROWS = "p or q\np or not q\nnot p or a = b\nnot f(a) = f(b)\n"
PAPER = [("learnt", (1,), (0, 1)), ("learnt", (3,), (4, 2)), ("equal", (4, -3), ((0, 1, 3), (2, 3, 0))),
         ("learnt", (), (3, 5, 6))]


class Fault(unittest.TestCase):
    def check(self, paper, number, problem=None):
        problem = problem or read(ROWS)
        kept = fields(problem), copy.deepcopy(paper)
        told = fault(problem, paper)
        self.assertEqual(told, number, paper)
        self.assertIn(type(told), (int, type(None)))
        self.assertIs(lets_by(problem, paper), number is None)
        self.assertEqual((fields(problem), paper), kept)
        self.assertEqual(fault(problem, paper), number)

    def test_a_paper_that_is_let_by(self):
        self.check(PAPER, None)
        self.check([("learnt", (), (0,))], None, read("never\n"))
        self.check([("learnt", (), (1, 0))], None, read("p\nnot p\n"))

    def test_what_is_no_list(self):
        for paper in (None, 0, 5, "", "learnt none by 0\n", (), tuple(PAPER), {}, {0: PAPER[0]}, True, 1.5, PAPER[0],
                      Problem(), list):
            self.assertEqual(fault(read(ROWS), paper), 0)
            self.assertIs(lets_by(read(ROWS), paper), False)

    def test_the_empty_list(self):
        self.check([], 0)
        self.check([], 0, read("never\n"))
        self.check([], 0, Problem())

    def test_a_paper_without_its_end(self):
        for many in range(len(PAPER)):
            self.check(PAPER[:many], many)

    def test_a_line_that_is_wrong(self):
        for place in range(len(PAPER)):
            paper = list(PAPER)
            paper[place] = ("learnt", PAPER[place][1], ())
            self.check(paper, place)
            paper[place] = None
            self.check(paper, place)

    def test_the_first_of_several(self):
        self.check([PAPER[0], None, None, PAPER[3]], 1)
        self.check([PAPER[0], PAPER[1], ("learnt", (2,), (0,)), 5], 2)
        self.check([7] + PAPER, 0)

    def test_lines_behind_one_without_parts(self):
        self.check(PAPER + [("learnt", (), (7,))], None)
        self.check(PAPER + [("learnt", (2,), (7,))], 5)
        self.check(PAPER + [("learnt", (2,), (7,)), ("learnt", (), (7,))], None)
        self.check(PAPER + [("learnt", (2,), (6,))], 4)
        self.check(PAPER + [None], 4)
        self.check(PAPER + PAPER[:2], 6)

    def test_lines_that_are_no_tuples_of_three(self):
        for line in (None, 0, "learnt", [], (), ["learnt", (1,), (0, 1)], ("learnt", (1,)), ("learnt",),
                     ("learnt", (1,), (0, 1), ()), ("learnt", (1,), (0, 1), 0), {0: "learnt"}, "lea", 1.0, True):
            self.check([line] + PAPER[1:], 0)
            self.check([PAPER[0], line] + PAPER[2:], 1)
            self.check(PAPER + [line], 4)

    def test_texts_that_are_neither(self):
        for word in ("", "Learnt", "learnt ", "learn", "equals", "same", "l", None, 0, 1, True, (), ["learnt"],
                     ("learnt",), b"learnt", {}):
            self.check([(word, (1,), (0, 1))] + PAPER[1:], 0)
            self.check(PAPER[:2] + [(word, (4, -3), ((0, 1, 3), (2, 3, 0))), PAPER[3]], 2)
        self.check([("equal", (1,), (0, 1))] + PAPER[1:], 0)
        self.check(PAPER[:2] + [("learnt", (4, -3), ((0, 1, 3), (2, 3, 0))), PAPER[3]], 2)

    def test_parts_hints_and_links_that_are_no_tuples(self):
        for parts in ([1], None, 1, "1", {1: True}, {1}, [], "", 0, True):
            self.check([("learnt", parts, (0, 1))] + PAPER[1:], 0)
            self.check(PAPER + [("learnt", parts, (7,))], 4)
            self.check([("equal", parts, ())], 0)
        for hints in ([0, 1], None, 1, "01", {0: 1}, {0, 1}, [], 0, True):
            self.check([("learnt", (1,), hints)] + PAPER[1:], 0)
        right = ((0, 1, 3), (2, 3, 0))
        for links in (list(right), None, 0, "", {}, set(right), (list(right[0]), right[1]), (right[0], [2, 3, 0]),
                      (right[0], (2, 3)), (right[0], (2, 3, 0, 0)), (right[0], None), (right[0], 0), (0, 1, 3),
                      (right[0], "230"), (right[0], ()), (right[0], {2: 0, 3: 0, 0: 0})):
            self.check(PAPER[:2] + [("equal", (4, -3), links), PAPER[3]], 2)

    def test_numbers_that_are_none(self):
        for odd in (True, False, "1", None, 1.0, (1,), [1], {}, 1j):
            self.check([("learnt", (odd,), (0, 1))] + PAPER[1:], 0)
            self.check([("learnt", (1, odd), (0, 1))] + PAPER[1:], 0)
            self.check([("learnt", (1,), (0, odd))] + PAPER[1:], 0)
            self.check([("learnt", (1,), (odd, 1))] + PAPER[1:], 0)
            for link in ((odd, 1, 3), (0, odd, 3), (0, 1, odd)):
                self.check(PAPER[:2] + [("equal", (4, -3), (link, (2, 3, 0))), PAPER[3]], 2)

    def test_truths_in_the_place_of_numbers(self):
        # Each of these would be right if truths were the numbers 0 and 1.
        self.check([("learnt", (True,), (0, 1))] + PAPER[1:], 0)
        self.check([("learnt", (1,), (False, 1))] + PAPER[1:], 0)
        self.check([("learnt", (1,), (0, True))] + PAPER[1:], 0)
        self.check(PAPER[:2] + [("equal", (4, -3), ((False, 1, 3), (2, 3, 0))), PAPER[3]], 2)
        self.check(PAPER[:2] + [("equal", (4, -3), ((0, True, 3), (2, 3, 0))), PAPER[3]], 2)
        self.check(PAPER[:2] + [("equal", (4, -3), ((0, 1, 3), (2, 3, False))), PAPER[3]], 2)
        problem = read("a = b or p\n")
        self.check([("equal", (1, -1), ((0, 1, True),))], 0, problem)
        self.check([("equal", (True,), ())], 0, read("a = a\n"))
        self.check([("equal", (1,), ())], 1, read("a = a\n"))

    def test_parts_that_there_are_not(self):
        for part in (0, 5, -5, 6, -100, 10 ** 20):
            self.check([("learnt", (1, part), (0, 1))] + PAPER[1:], 0)
            self.check([("learnt", (part,), (0, 1))] + PAPER[1:], 0)
            self.check(PAPER + [("learnt", (part,), (7,))], 4)
            self.check(PAPER[:2] + [("equal", (4, -3, part), ((0, 1, 3), (2, 3, 0))), PAPER[3]], 2)
        for part in (1, -1, 4, -4):
            self.check(PAPER + [("learnt", (part,), (7,))], 5)

    def test_parts_that_are_alike_or_opposite(self):
        self.check(PAPER + [("learnt", (2, 3), (7,))], 5)
        for parts in ((2, 2), (2, -2), (-2, 2), (-2, -2), (1, 3, 1), (1, 3, -1)):
            self.check(PAPER + [("learnt", parts, (7,))], 4)
        self.check([("learnt", (1, 1), (0, 1))] + PAPER[1:], 0)
        problem = read("a = b\n")
        self.check([("equal", (1, -1), ((0, 1, 1),))], 0, problem)
        self.check([("equal", (1, 1), ())], 0, read("a = a\n"))

    def test_hints_below_nought(self):
        self.check([("learnt", (1,), (-4, 1))] + PAPER[1:], 0)
        self.check([("learnt", (1,), (0, -3))] + PAPER[1:], 0)
        self.check(PAPER + [("learnt", (), (-1,))], 4)
        for link in ((-4, 1, 3), (0, -3, 3), (0, 1, -1)):
            self.check(PAPER[:2] + [("equal", (4, -3), (link, (2, 3, 0))), PAPER[3]], 2)
        self.check(PAPER[:2] + [("equal", (4, -3), ((0, 1, 3), (2, 3, -1))), PAPER[3]], 2)

    def test_a_hint_of_the_line_itself_or_of_one_behind_it(self):
        self.check([("learnt", (1,), (4,))] + PAPER[1:], 0)
        self.check([("learnt", (), (4,))], 0)
        self.check([("learnt", (), (5,)), ("learnt", (), (4,))], 0)
        self.check([PAPER[0], ("learnt", (3,), (5,))] + PAPER[2:], 1)
        self.check([PAPER[0], ("learnt", (3,), (6,))] + PAPER[2:], 1)
        self.check([PAPER[1], PAPER[0]] + PAPER[2:], 0)
        self.check([PAPER[0], ("learnt", (3,), (100,))] + PAPER[2:], 1)

    def test_links_of_what_there_is_not(self):
        for link in ((4, 1, 3), (0, 4, 3), (0, 1, 5), (0, 1, 1), (4, 4, 0)):
            self.check(PAPER[:2] + [("equal", (4, -3), (link, (2, 3, 0))), PAPER[3]], 2)

    def test_an_equal_line_by_itself(self):
        self.check([("equal", (4, -3), ((0, 1, 3), (2, 3, 0)))], 1)
        self.check([("equal", (), ())], 0)

    def test_a_row_more_moves_the_numbers_of_lines(self):
        problem = read(ROWS)
        self.check(PAPER, None, problem)
        problem.add_row([2])
        self.check(PAPER, 1, problem)
        moved = [("learnt", (1,), (0, 1)), ("learnt", (3,), (5, 2)), PAPER[2], ("learnt", (), (3, 6, 7))]
        self.check(moved, None, problem)
        self.check(moved, 1)

    def test_of_another_problem(self):
        self.check(PAPER, 0, Problem())
        self.check(PAPER, 0, read("p or q\nnot p or a = b\np or not q\nnot f(a) = f(b)\n"))
        self.check(PAPER, 3, read("p or q\np or not q\nnot p or a = b\nf(a) = f(b)\n"))

    def test_by_chance(self):
        chance = random.Random(21)
        seen = {}
        for count in range(9000):
            problem = random_problem(chance, terms=3, atoms=4, rows=8, longest=2, plain=2)
            paper = []
            for line in range(chance.randrange(1, 5)):
                atoms = chance.sample(range(1, len(problem.atoms) + 1), chance.randrange(2))
                parts = tuple(chance.choice((1, -1)) * atom for atom in atoms)
                ahead = 8 + len(paper)
                hints = [chance.randrange(ahead) for hint in range(chance.randrange(1, 4))]
                paper.append(("learnt", parts, tuple(hints)))
            told = fault_by_hand(problem, paper)
            seen[told] = seen.get(told, 0) + 1
            self.assertEqual(fault(problem, paper), told)
            if told is None:
                self.assertEqual(all_held(problem), [])
        self.assertGreater(min(seen[None], seen[0], seen[1]), 15)


if __name__ == "__main__":
    unittest.main()
