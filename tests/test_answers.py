"""Point 28's answer, and points 1 to 3 as far as they touch it."""

import random
import unittest

from helping import all_held, diamonds, fields, holes, random_problem, refusal
from yesorno.answers import answer
from yesorno.choices import Choice, chosen, tried
from yesorno.errors import TooLong
from yesorno.papers import lets_by
from yesorno.problems import Problem
from yesorno.reading import read
from yesorno.search import search


class Answer(unittest.TestCase):
    def check(self, problem, most=2000):
        kept = fields(problem)
        told = answer(problem, most)
        self.assertEqual(fields(problem), kept)
        self.assertIs(type(told), tuple)
        word, found = search(problem, most)
        self.assertEqual(told[0], word)
        if word == "no":
            self.assertEqual(told, ("no", found))
            self.assertTrue(lets_by(problem, told[1]))
        else:
            self.assertIsInstance(told[1], Choice)
            wanted = chosen(problem, found)
            self.assertEqual(list(told[1].plain.items()), list(wanted.plain.items()))
            self.assertEqual(list(told[1].tables.items()), list(wanted.tables.items()))
            self.assertIsNone(tried(problem, told[1]))
        return told

    def test_yes(self):
        told = self.check(read("p\nnot q\na = b\nnot a = c\n"))
        self.assertEqual(told[0], "yes")
        self.assertEqual(told[1].plain, {"p": True, "q": False})
        self.assertEqual(told[1].tables, {("a", ()): 0, ("b", ()): 0, ("c", ()): 2})
        self.assertEqual(self.check(Problem())[0], "yes")

    def test_no(self):
        for problem in (read("never\n"), read("p\nnot p\n"), read("a = b\nnot f(a) = f(b)\n"), holes(2, 3),
                        diamonds(2)):
            self.assertEqual(self.check(problem)[0], "no")

    def test_by_chance(self):
        chance = random.Random(280)
        for count in range(300):
            problem = random_problem(chance, terms=chance.choice((0, 5)), atoms=6, rows=15, shortest=2)
            self.assertEqual(self.check(problem)[0], "yes" if all_held(problem) else "no")

    def test_too_long(self):
        problem = holes(3, 4)
        lines = len(answer(problem)[1])
        self.assertEqual(answer(problem, lines), answer(problem))
        self.assertEqual(refusal(answer, problem, lines - 1), TooLong)
        self.assertEqual(refusal(answer, problem, 1), TooLong)
        self.assertEqual(answer(problem, most=2000), answer(problem))

    def test_what_was_told_stays(self):
        problem = read("p or q\n")
        told = answer(problem)
        kept = dict(told[1].plain)
        problem.add_row([-1])
        problem.add_row([-2])
        second = answer(problem)
        paper = list(second[1])
        problem.add_row([])
        answer(problem)[1].clear()
        self.assertEqual(told[1].plain, kept)
        self.assertEqual(second, ("no", paper))
        told[1].plain.clear()
        self.assertEqual(answer(read("p or q\n"))[1].plain, kept)


if __name__ == "__main__":
    unittest.main()
