"""Points 39 and 40, and points 1 to 3 as far as they touch them."""

import random
import unittest

from helping import all_held, diamonds, fields, holes, names, problem_of, random_problem, refusal
from yesorno.answers import answer
from yesorno.choices import Choice, tried
from yesorno.errors import BadPart, ChoiceError, NoChoice, TooLong, TooMany
from yesorno.follows import follows, forced
from yesorno.papers import fault
from yesorno.problems import Problem
from yesorno.reading import read
from yesorno.trims import part_of


def with_opposites(problem, parts):
    found = part_of(problem, list(range(len(problem.rows))))
    for part in dict.fromkeys(parts):
        found.add_row([-part])
    return found


class Follows(unittest.TestCase):
    def check(self, problem, parts, wanted=None, most=2000):
        kept = fields(problem), list(parts)
        told = follows(problem, parts, most)
        self.assertEqual((fields(problem), list(parts)), kept)
        self.assertIs(type(told), tuple)
        if wanted is not None:
            self.assertEqual(told[0], wanted)
        longer = with_opposites(problem, parts)
        if told[0] == "yes":
            self.assertIs(type(told[1]), list)
            self.assertIsNone(fault(longer, told[1]))
            self.assertEqual(follows(problem, tuple(parts), most), told)
            self.assertEqual(follows(problem, list(parts), most), told)
        else:
            self.assertEqual(told[0], "no")
            self.assertIsInstance(told[1], Choice)
            self.assertIsNone(tried(longer, told[1]))
            again = follows(problem, tuple(parts), most)
            self.assertEqual((again[1].plain, again[1].tables), (told[1].plain, told[1].tables))
        return told

    def test_one_part(self):
        problem = read("p\nnot p or q\nr or s\n")
        self.check(problem, [1], "yes")
        self.check(problem, [2], "yes")
        self.check(problem, [3], "no")
        self.check(problem, [-1], "no")
        self.check(problem, [-4], "no")

    def test_parts_that_follow_together(self):
        problem = read("p or q\nnot p or r\n")
        self.check(problem, [1], "no")
        self.check(problem, [2], "no")
        self.check(problem, [1, 2], "yes")
        self.check(problem, [2, 3], "yes")
        self.check(problem, [1, 3], "no")

    def test_parts_told_twice(self):
        problem = read("p or q\n")
        told = self.check(problem, [1, 2, 1, 1, 2], "yes")
        self.assertEqual(told, follows(problem, [1, 2]))
        self.check(problem, [1, 1], "no")
        self.check(problem, [2] * 300, "no")

    def test_the_order_of_the_rows(self):
        problem = read("p or q\n")
        for parts in ([2, 1], [1, 2], [2, 2, 1], [2, 1, 2]):
            self.check(problem, parts, "yes")

    def test_opposite_parts(self):
        problem = read("p or q\n")
        self.check(problem, [1, -1], "yes")
        self.check(problem, [-2, 1, 2], "yes")

    def test_no_parts(self):
        self.check(read("p\n"), [], "no")
        self.check(Problem(), (), "no")
        self.check(read("p\nnot p\n"), [], "yes")
        self.check(read("never\n"), [], "yes")
        self.assertEqual(follows(holes(2, 3), []), ("yes", answer(holes(2, 3))[1]))

    def test_without_a_choice_all_follows(self):
        problem = read("p\nnot p\nq or r\n")
        for parts in ([1], [-1], [2], [-3, -2]):
            self.check(problem, parts, "yes")

    def test_samenesses(self):
        problem = read("a = b\nb = c\nf(a) = d or p\na = c or f(c) = d\n")
        self.assertEqual(problem.atoms[4], ("same", 0, 2))
        self.check(problem, [5], "yes")
        self.check(problem, [-5], "no")
        self.check(problem, [4], "no")
        self.check(problem, [3, 4], "yes")
        self.check(problem, [6, 4], "yes")
        self.check(problem, [6], "no")

    def test_refused(self):
        problem = read("p or q\n")
        for parts in ([0], [3], [-3], [1, 0], [1, 2, 100], [-100]):
            self.assertEqual(refusal(follows, problem, parts), BadPart)
        self.assertEqual(refusal(follows, Problem(), [1]), BadPart)

    def test_too_many_rows(self):
        problem = problem_of(atoms=5)
        for count in range(198):
            problem.add_row([1, 2])
        self.check(problem, [1, 2], "yes")
        self.check(problem, [1, 1, 2, 1, 2], "yes")
        self.assertEqual(refusal(follows, problem, [1, 2, 3]), TooMany)
        problem.add_row([1])
        problem.add_row([2])
        self.assertEqual(refusal(follows, problem, [1]), TooMany)
        self.check(problem, [], "no")
        many = problem_of(atoms=40, rows=161)
        self.assertEqual(refusal(follows, many, list(range(1, 41))), TooMany)
        self.check(many, list(range(1, 40)), "yes")

    def test_the_order_of_refusals(self):
        full = problem_of(atoms=2, rows=200)
        self.assertEqual(refusal(follows, full, [1, 0]), BadPart)
        self.assertEqual(refusal(follows, full, [1, 2, 3]), BadPart)
        self.assertEqual(refusal(follows, full, [1]), TooMany)
        long = holes(3, 4)
        self.assertEqual(refusal(follows, long, [], 1), TooLong)
        self.assertEqual(refusal(follows, long, [13], 1), BadPart)
        while len(long.rows) < 200:
            long.add_row([1, -1])
        self.assertEqual(refusal(follows, long, [1], 1), TooMany)

    def test_too_long(self):
        problem = holes(3, 4)
        lines = len(follows(problem, [])[1])
        self.check(problem, [], "yes", lines)
        self.assertEqual(refusal(follows, problem, [], lines - 1), TooLong)
        self.assertEqual(follows(problem, [], most=100000), follows(problem, []))

    def test_by_chance(self):
        chance = random.Random(39)
        seen = {"yes": 0, "no": 0}
        for count in range(500):
            problem = random_problem(chance, terms=chance.choice((0, 4)), atoms=5, rows=chance.randrange(9), shortest=2)
            parts = [chance.choice((1, -1)) * chance.randrange(1, len(problem.atoms) + 1)
                     for part in range(chance.randrange(4))]
            wanted = "yes" if all(set(held) & set(parts) for held in all_held(problem)) else "no"
            self.check(problem, parts, wanted)
            seen[wanted] += 1
        self.assertGreater(min(seen.values()), 50)

    def test_what_was_told_stays(self):
        problem = read("p or q\n")
        first = follows(problem, [1, 2])
        second = follows(problem, [1])
        kept = list(first[1]), dict(second[1].plain)
        problem.add_row([1])
        follows(problem, [1])[1].clear()
        self.assertEqual((first[1], second[1].plain), kept)
        second[1].plain.clear()
        self.assertEqual(follows(read("p or q\n"), [1])[1].plain, kept[1])


class Forced(unittest.TestCase):
    def check(self, problem, wanted=None, most=2000):
        kept = fields(problem)
        told = forced(problem, most)
        self.assertEqual(fields(problem), kept)
        self.assertEqual([type(thing) for thing in (told,) + told], [tuple, tuple, list])
        parts, papers = told
        if wanted is not None:
            self.assertEqual(parts, wanted)
        self.assertEqual(len(papers), len(parts))
        for part, paper in zip(parts, papers):
            self.assertIsNone(fault(with_opposites(problem, [part]), paper))
            self.assertEqual(follows(problem, [part], most), ("yes", paper))
        self.assertEqual(forced(problem, most), told)
        return told

    def test_parts(self):
        self.check(read("p\nq or r\nnot s\n"), (1, -4))
        self.check(read("p\nnot p or not q\n"), (1, -2))
        self.check(read("p or q\np or not q\nr or s\n"), (1,))
        self.check(read("p or q\n"), ())

    def test_samenesses(self):
        self.check(read("a = b\nb = c\na = c or p\nf(a) = f(c) or p\n"), (1, 2, 3, 5))
        self.check(read("a = a or p\nnot f(a) = f(b)\na = b or q\n"), (1, -3, -4, 5))

    def test_without_atoms(self):
        self.assertEqual(self.check(Problem(), ()), ((), []))
        self.assertEqual(forced(problem_of(terms=3)), ((), []))

    def test_without_rows(self):
        self.check(problem_of(atoms=4), ())
        problem = Problem()
        problem.add_term("a", ())
        problem.add_same(0, 0)
        self.check(problem, (1,))

    def test_without_a_choice(self):
        for problem in (read("never\n"), read("p\nnot p\n"), holes(2, 3), diamonds(1), problem_of(atoms=1, rows=200)):
            self.assertEqual(refusal(forced, problem), NoChoice)
        with self.assertRaises(NoChoice) as taken:
            forced(read("never\n"))
        self.assertIsInstance(taken.exception, ChoiceError)
        self.assertIsInstance(taken.exception, ValueError)

    def test_two_hundred_rows(self):
        problem = problem_of(atoms=1)
        for count in range(199):
            problem.add_row([1])
        self.check(problem, (1,))
        problem.add_row([1])
        self.assertEqual(refusal(forced, problem), TooMany)
        problem = problem_of(atoms=1)
        for count in range(199):
            problem.add_row([1])
        problem.add_row([-1])
        self.assertEqual(refusal(forced, problem), NoChoice)

    def test_two_hundred_rows_ahead_of_later_atoms(self):
        problem = problem_of(atoms=2)
        for count in range(200):
            problem.add_row([1, 2, -1])
        self.assertEqual(refusal(forced, problem), TooMany)

    def test_too_long(self):
        # Each thing but one in its own hole: what follows of the last thing needs a paper.
        problem = holes(3, 4)
        self.assertEqual(refusal(forced, problem, 1), TooLong)
        lines = len(answer(problem)[1])
        self.assertEqual(refusal(forced, problem, lines), NoChoice)
        self.assertEqual(refusal(forced, problem, lines - 1), TooLong)

    def test_too_long_as_follows_is(self):
        problem = holes(3, 4)
        name = names(1)[0]
        atom = problem.add_plain(name)
        longer = Problem()
        for kind, plain in problem.atoms:
            longer.add_plain(plain)
        for row in problem.rows:
            longer.add_row(row + (atom,))
        told = self.check(longer, (atom,))
        most = len(told[1][0])
        self.assertGreater(most, 1)
        self.assertEqual(refusal(forced, longer, most - 1), TooLong)
        self.assertEqual(forced(longer, 100000), told)

    def test_by_chance(self):
        chance = random.Random(40)
        seen = 0
        for count in range(400):
            problem = random_problem(chance, terms=chance.choice((0, 4)), atoms=5, rows=chance.randrange(10),
                                     shortest=2)
            held = all_held(problem)
            if not held:
                self.assertEqual(refusal(forced, problem), NoChoice)
            else:
                wanted = [part for part in held[0] if all(part in other for other in held)]
                self.check(problem, tuple(wanted))
                seen += 0 < len(wanted) < len(held[0])
        self.assertGreater(seen, 50)

    def test_what_was_told_stays(self):
        problem = read("p\n")
        first = forced(problem)
        kept = first[0], [list(paper) for paper in first[1]]
        problem.add_row([1])
        second = forced(problem)
        second[1][0].clear()
        second[1].clear()
        self.assertEqual(first, kept)
        self.assertEqual(forced(read("p\n")), kept)


if __name__ == "__main__":
    unittest.main()
