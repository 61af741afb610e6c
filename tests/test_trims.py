"""Point 34, and points 2 and 3 as far as they touch it."""

import copy
import random
import unittest

from helping import all_held, diamonds, fields, holes, random_problem, refusal
from yesorno.errors import BadPaper, ChoiceError
from yesorno.papers import fault, lets_by
from yesorno.problems import Problem
from yesorno.reading import read
from yesorno.search import search
from yesorno.trims import needed, part_of, trimmed

# p 1, q 2, r 3, a = b 4, f(a) = f(b) 5; rows 1, 4 and 6 are of no need.
ROWS = "p or q\nr or not r\np or not q\nnot p or a = b\nq or p\nnot f(a) = f(b)\nr\n"
PAPER = [("learnt", (3,), (6,)), ("learnt", (1,), (0, 2)), ("equal", (5, -4, 3), ((0, 1, 4), (2, 3, 0))),
         ("learnt", (4,), (8, 3)), ("equal", (5, -4), ((0, 1, 4), (2, 3, 0))), ("learnt", (3, 1), (8,)),
         ("learnt", (), (5, 10, 11))]


def by_hand(problem, paper):
    """What 34 says of what is needed, word by word."""
    many = len(problem.rows)
    found = {many + len(paper) - 1}
    while True:
        more = set(found)
        for number in found:
            if number >= many and paper[number - many][0] == "learnt":
                more.update(paper[number - many][2])
        if more == found:
            return (tuple(sorted(number for number in found if number < many)),
                    tuple(sorted(number - many for number in found if number >= many)))
        found = more


class Trims(unittest.TestCase):
    def check(self, problem, paper, wanted=None):
        kept = fields(problem), copy.deepcopy(paper)
        told = needed(problem, paper)
        self.assertEqual(told, by_hand(problem, paper))
        if wanted is not None:
            self.assertEqual(told, wanted)
        self.assertEqual([type(thing) for thing in (told,) + told], [tuple] * 3)
        short = trimmed(problem, paper)
        self.assertEqual((fields(problem), paper), kept)
        self.assertIs(type(short), list)
        part = part_of(problem, told[0])
        self.assertIsNone(fault(part, short))
        self.assertEqual([line[:2] for line in short], [paper[place][:2] for place in told[1]])
        for line, place in zip(short, told[1]):
            if line[0] == "equal":
                self.assertEqual(line, paper[place])
            else:
                numbers = told[0] + tuple(len(problem.rows) + place for place in told[1])
                self.assertEqual(tuple(numbers[hint] for hint in line[2]), paper[place][2])
        self.assertEqual(needed(part, short), (tuple(range(len(told[0]))), tuple(range(len(short)))))
        self.assertEqual(trimmed(part, short), short)
        self.assertEqual(trimmed(problem, paper), short)
        return short

    def test_lines_and_rows_without_need(self):
        short = self.check(read(ROWS), PAPER, ((0, 2, 3, 5), (1, 3, 4, 6)))
        self.assertEqual(short, [("learnt", (1,), (0, 1)), ("learnt", (4,), (4, 2)),
                                 ("equal", (5, -4), ((0, 1, 4), (2, 3, 0))), ("learnt", (), (3, 5, 6))])

    def test_all_of_it(self):
        self.assertEqual(self.check(read("never\n"), [("learnt", (), (0,))], ((0,), (0,))), [("learnt", (), (0,))])
        self.check(read("p\nnot p\n"), [("learnt", (), (1, 0))], ((0, 1), (0,)))

    def test_the_order_of_hints_stays(self):
        short = self.check(read("q\np\nnot p or q\nnot p\n"), [("learnt", (), (3, 1))], ((1, 3), (0,)))
        self.assertEqual(short, [("learnt", (), (1, 0))])

    def test_an_equal_line_needs_none(self):
        # The numbers in its links are none of rows.
        problem = read("p\nnot a = b\nq\na = b\nnot f(a) = f(b)\n")
        paper = [("equal", (4, -2), ((0, 1, 2), (2, 3, 0)))]
        self.assertEqual(problem.atoms[3], ("same", 2, 3))
        paper.append(("learnt", (), (3, 4, 5)))
        self.check(problem, paper, ((3, 4), (0, 1)))

    def test_no_row_is_needed(self):
        problem = read("not a = a\n")
        self.check(problem, [("equal", (1,), ()), ("learnt", (), (0, 1))], ((0,), (0, 1)))

    def test_lines_behind_the_one_that_is_needed(self):
        problem = read("never\np\n")
        paper = [("learnt", (1,), (1,)), ("learnt", (), (0,)), ("learnt", (-1,), (3,)), ("learnt", (), (2, 4))]
        self.check(problem, paper, ((0, 1), (0, 1, 2, 3)))
        self.check(problem, paper[:2], ((0,), (1,)))
        self.check(problem, paper[:3] + [("learnt", (), (3,))], ((0,), (1, 3)))

    def test_papers_of_the_search(self):
        for problem in (holes(2, 3), holes(3, 4), diamonds(2), diamonds(3)):
            self.check(problem, search(problem)[1])
        chance = random.Random(34)
        seen = 0
        for count in range(300):
            problem = random_problem(chance, terms=chance.choice((0, 5)), atoms=6, rows=30, shortest=2)
            told = search(problem)
            if told[0] == "no":
                seen += len(self.check(problem, told[1])) < len(told[1])
        self.assertGreater(seen, 0)

    def test_the_rows_that_are_needed_have_no_choice(self):
        chance = random.Random(340)
        for count in range(100):
            problem = random_problem(chance, terms=4, atoms=5, rows=25, shortest=2)
            told = search(problem)
            if told[0] == "no":
                self.assertEqual(all_held(part_of(problem, needed(problem, told[1])[0])), [])


class PartOf(unittest.TestCase):
    def check(self, problem, numbers, rows):
        kept = fields(problem)
        part = part_of(problem, numbers)
        self.assertEqual(fields(problem), kept)
        self.assertIsInstance(part, Problem)
        self.assertEqual(fields(part), (kept[0], kept[1], rows))
        self.assertEqual(fields(part_of(problem, tuple(numbers))), fields(part))
        self.assertEqual(fields(part_of(problem, list(numbers))), fields(part))

    def test_rows(self):
        problem = read("p or q\nnot p\na = f(b)\nnever\n")
        self.check(problem, [], [])
        self.check(problem, (), [])
        self.check(problem, [0, 1, 2, 3], problem.rows)
        self.check(problem, [2], [(3,)])
        self.check(problem, [3, 0], [(), (1, 2)])
        self.check(problem, [1, 1, 0, 1], [(-1,), (-1,), (1, 2), (-1,)])
        self.check(Problem(), [], [])

    def test_lists_of_its_own(self):
        problem = read("p or q\nnot p\na = f(b)\n")
        part = part_of(problem, [0, 1])
        kept = fields(problem)
        part.add_term("c", ())
        part.add_plain("r")
        part.add_row([1])
        self.assertEqual(fields(problem), kept)
        other = part_of(problem, [0])
        kept = fields(other)
        problem.add_term("d", ())
        problem.add_plain("s")
        problem.add_row([])
        self.assertEqual(fields(other), kept)


class Refused(unittest.TestCase):
    def refuse(self, problem, paper):
        self.assertEqual(refusal(needed, problem, paper), BadPaper)
        self.assertEqual(refusal(trimmed, problem, paper), BadPaper)

    def test_papers_that_are_not_let_by(self):
        problem = read(ROWS)
        for many in range(len(PAPER)):
            self.refuse(problem, PAPER[:many])
        for place in range(len(PAPER)):
            self.refuse(problem, PAPER[:place] + [("learnt", PAPER[place][1], ())] + PAPER[place + 1:])
            self.refuse(problem, PAPER[:place] + [None] + PAPER[place + 1:])
        self.refuse(problem, PAPER + [("learnt", (1,), (13,))])
        self.refuse(problem, [])
        self.refuse(Problem(), [])
        self.refuse(Problem(), PAPER)
        for paper in (None, (), tuple(PAPER), "learnt none by 0\n"):
            self.refuse(problem, paper)

    def test_a_line_without_need_must_be_right_too(self):
        paper = list(PAPER)
        paper[0] = ("learnt", (3,), (0,))
        self.refuse(read(ROWS), paper)

    def test_a_row_more(self):
        problem = holes(2, 3)
        paper = search(problem)[1]
        told = needed(problem, paper)
        short = trimmed(problem, paper)
        problem.add_row([1])
        if not lets_by(problem, paper):
            self.refuse(problem, paper)
        self.assertEqual(told[0], needed(holes(2, 3), paper)[0])
        again = search(problem)[1]
        self.assertTrue(lets_by(part_of(problem, needed(problem, again)[0]), trimmed(problem, again)))
        self.assertTrue(lets_by(part_of(problem, told[0]), short))

    def test_its_class(self):
        with self.assertRaises(BadPaper) as taken:
            needed(Problem(), [])
        self.assertIsInstance(taken.exception, ChoiceError)
        self.assertIsInstance(taken.exception, ValueError)

    def test_what_was_told_stays(self):
        problem = read(ROWS)
        paper = list(PAPER)
        short = trimmed(problem, paper)
        kept = list(short)
        paper.clear()
        self.assertEqual(short, kept)
        short.clear()
        self.assertEqual(trimmed(problem, list(PAPER)), kept)


if __name__ == "__main__":
    unittest.main()
