"""Point 37, and points 1 to 3 as far as they touch it."""

import random
import unittest

from helping import all_held, diamonds, fields, holes, random_problem, refusal
from yesorno.choices import Choice, chosen, tried
from yesorno.cores import core
from yesorno.errors import ChoiceError, HasChoice, TooLong
from yesorno.papers import fault
from yesorno.problems import Problem
from yesorno.reading import read
from yesorno.search import search
from yesorno.trims import needed, part_of


def by_hand(problem, most=2000):
    """The numbers and the choices, as 37 has them, word by word."""
    kept = list(needed(problem, search(problem, most)[1])[0])
    stayed = {}
    for number in sorted(kept, reverse=True):
        part = part_of(problem, [other for other in kept if other != number])
        word, found = search(part, most)
        if word == "no":
            kept.remove(number)
        else:
            stayed[number] = chosen(part, found)
    return tuple(kept), [stayed[number] for number in kept]


def shape(choice):
    return list(choice.plain.items()), list(choice.tables.items())


class Core(unittest.TestCase):
    def check(self, problem, wanted=None, most=2000):
        kept = fields(problem)
        told = core(problem, most)
        self.assertEqual(fields(problem), kept)
        self.assertIs(type(told), tuple)
        numbers, paper, choices = told
        self.assertEqual([type(thing) for thing in told], [tuple, list, list])
        if wanted is not None:
            self.assertEqual(numbers, wanted)
        hand = by_hand(problem, most)
        self.assertEqual(numbers, hand[0])
        self.assertEqual(list(numbers), sorted(set(numbers)))
        self.assertLessEqual(set(numbers), set(needed(problem, search(problem, most)[1])[0]))
        self.assertIsNone(fault(part_of(problem, numbers), paper))
        self.assertTrue(1 <= len(paper) <= most)
        self.assertEqual(len(choices), len(numbers))
        self.assertEqual([shape(choice) for choice in choices], [shape(choice) for choice in hand[1]])
        for number, choice in zip(numbers, choices):
            self.assertIsInstance(choice, Choice)
            self.assertIsNone(tried(part_of(problem, [other for other in numbers if other != number]), choice))
            self.assertIsNotNone(tried(problem, choice))
        again = core(problem, most)
        self.assertEqual(again[:2], told[:2])
        self.assertEqual([shape(choice) for choice in again[2]], [shape(choice) for choice in choices])
        return told

    def test_a_row_without_parts(self):
        told = self.check(read("never\n"), (0,))
        self.assertEqual(told[1], [("learnt", (), (0,))])
        self.check(read("p\nq or p\nnever\nnot q\n"), (2,))
        self.assertEqual(len(self.check(read("never\nnever\n"))[0]), 1)

    def test_two_rows(self):
        self.check(read("q\np\nr or q\nnot p\nr\n"), (1, 3))
        self.check(read("a = b\np\nnot f(a) = f(b)\nnot p or q\n"), (0, 2))

    def test_one_row_alone(self):
        self.check(read("p\nnot a = a\nq\n"), (1,))

    def test_rows_that_are_all_needed(self):
        for problem in (holes(1, 2), holes(2, 3), diamonds(1), diamonds(2)):
            self.check(problem, tuple(range(len(problem.rows))))

    def test_rows_without_need_among_others(self):
        problem = holes(2, 3)
        many = len(problem.rows)
        for count in range(5):
            problem.add_row([1, -1, 2])
        self.check(problem, tuple(range(many)))

    def test_two_cores(self):
        # Either of two is a core by itself; just one of them is told.
        told = self.check(read("p\nnot p\nq\nnot q\n"))
        self.assertIn(told[0], [(0, 1), (2, 3)])

    def test_the_last_rows_are_left_out_first(self):
        told = self.check(read("p or q\nnot p\nnot q\np or q or r\nnot r\n"))
        self.assertIn(told[0], [(0, 1, 2), (1, 2, 3, 4)])

    def test_by_chance(self):
        chance = random.Random(37)
        seen = 0
        for count in range(400):
            problem = random_problem(chance, terms=chance.choice((0, 4)), atoms=5, rows=chance.randrange(10, 30),
                                     shortest=2)
            if all_held(problem):
                self.assertEqual(refusal(core, problem), HasChoice)
            else:
                numbers = self.check(problem)[0]
                self.assertEqual(all_held(part_of(problem, numbers)), [])
                for number in numbers:
                    self.assertNotEqual(all_held(part_of(problem, [row for row in numbers if row != number])), [])
                seen += len(numbers) < len(needed(problem, search(problem)[1])[0])
        self.assertGreater(seen, 3)

    def test_has_a_choice(self):
        for problem in (Problem(), read("p\n"), read("a = b\nf(a) = b\n"), holes(2, 2)):
            self.assertEqual(refusal(core, problem), HasChoice)
        with self.assertRaises(HasChoice) as taken:
            core(Problem())
        self.assertIsInstance(taken.exception, ChoiceError)
        self.assertIsInstance(taken.exception, ValueError)

    def test_most_of_each_search(self):
        for problem in (holes(2, 3), holes(3, 4), diamonds(2)):
            most = 1
            while refusal(by_hand, problem, most) == TooLong:
                self.assertEqual(refusal(core, problem, most), TooLong)
                most += 1
            # The last part may be searched once more.
            last = part_of(problem, by_hand(problem)[0])
            while refusal(search, last, most) == TooLong:
                self.assertIn(refusal(core, problem, most), (None, TooLong))
                most += 1
            self.check(problem, most=most)
            self.assertEqual(core(problem, most)[0], core(problem)[0])
            self.assertEqual(core(problem)[0], core(problem, most=2000)[0])

    def test_behind_a_row_more(self):
        problem = read("p or q\nnot p\nnot q\n")
        first = core(problem)
        kept = first[0], list(first[1]), [shape(choice) for choice in first[2]]
        problem.add_row([])
        second = self.check(problem)
        self.assertIn(second[0], [(3,), (0, 1, 2)])
        second[1].clear()
        second[2].clear()
        self.assertEqual((first[0], first[1], [shape(choice) for choice in first[2]]), kept)
        again = core(read("p or q\nnot p\nnot q\n"))
        self.assertEqual((again[0], again[1], [shape(choice) for choice in again[2]]), kept)


if __name__ == "__main__":
    unittest.main()
