"""Point 9: how a problem is written."""

import unittest

from helping import fields, problem_of
from yesorno.problems import Problem
from yesorno.words import shown_part, shown_term, written


def example():
    problem = Problem()
    a = problem.add_term("a", [])
    b = problem.add_term("b", [])
    g = problem.add_term("g", [b])
    f = problem.add_term("f", [a, g])
    problem.add_term("h", [f, a, f])
    problem.add_plain("p")
    problem.add_same(f, a)
    problem.add_same(a, b)
    problem.add_plain("a")
    return problem


class Terms(unittest.TestCase):
    def test_terms(self):
        problem = example()
        told = [shown_term(problem, number) for number in range(5)]
        self.assertEqual(told, ["a", "b", "g(b)", "f(a, g(b))", "h(f(a, g(b)), a, f(a, g(b)))"])

    def test_one_name_with_other_counts_of_parts(self):
        problem = Problem()
        for parts in ([], [0], [0, 1], [2, 0, 1]):
            problem.add_term("f", parts)
        self.assertEqual(shown_term(problem, 0), "f")
        self.assertEqual(shown_term(problem, 1), "f(f)")
        self.assertEqual(shown_term(problem, 2), "f(f, f(f))")
        self.assertEqual(shown_term(problem, 3), "f(f(f, f(f)), f, f(f))")

    def test_sixty_within_one_another(self):
        problem = Problem()
        problem.add_term("a", [])
        for number in range(59):
            problem.add_term("f", [number])
        self.assertEqual(shown_term(problem, 59), "f(" * 59 + "a" + ")" * 59)

    def test_about_a_thousand_words(self):
        problem = Problem()
        problem.add_term("a", [])
        text = "a"
        for number in range(8):
            problem.add_term("f", [number, number])
            text = "f(" + text + ", " + text + ")"
        self.assertEqual(shown_term(problem, 8), text)


class Parts(unittest.TestCase):
    def test_parts(self):
        problem = example()
        self.assertEqual(shown_part(problem, 1), "p")
        self.assertEqual(shown_part(problem, -1), "not p")
        self.assertEqual(shown_part(problem, 2), "f(a, g(b)) = a")
        self.assertEqual(shown_part(problem, -2), "not f(a, g(b)) = a")
        self.assertEqual(shown_part(problem, 3), "a = b")
        self.assertEqual(shown_part(problem, -4), "not a")

    def test_a_sameness_is_written_in_the_order_it_was_told_first(self):
        problem = Problem()
        problem.add_term("a", [])
        problem.add_term("b", [])
        problem.add_same(1, 0)
        problem.add_same(0, 1)
        problem.add_same(0, 0)
        self.assertEqual(shown_part(problem, 1), "b = a")
        self.assertEqual(shown_part(problem, -1), "not b = a")
        self.assertEqual(shown_part(problem, 2), "a = a")

    def test_the_last_atom(self):
        problem = problem_of(atoms=40)
        problem.add_row([])
        self.assertEqual(shown_part(problem, 40), problem.atoms[39][1])
        self.assertEqual(shown_part(problem, -40), "not " + problem.atoms[39][1])


class Problems(unittest.TestCase):
    def test_no_rows(self):
        self.assertEqual(written(Problem()), "")
        self.assertEqual(written(problem_of(terms=3, atoms=3)), "")

    def test_a_row_without_parts(self):
        self.assertEqual(written(problem_of(rows=1)), "never\n")
        self.assertEqual(written(problem_of(rows=2)), "never\nnever\n")

    def test_rows(self):
        problem = example()
        problem.add_row([-1, 3, 1])
        problem.add_row([])
        problem.add_row([-2])
        problem.add_row([4])
        problem.add_row([4])
        self.assertEqual(written(problem), "not p or a = b or p\nnever\nnot f(a, g(b)) = a\na\na\n")

    def test_asked_again_the_same_and_the_problem_stays(self):
        problem = example()
        problem.add_row([3, -4, 2])
        before = fields(problem)
        first = written(problem)
        self.assertEqual(written(problem), first)
        self.assertEqual(shown_term(problem, 4), shown_term(problem, 4))
        self.assertEqual(shown_part(problem, -2), shown_part(problem, -2))
        self.assertEqual(fields(problem), before)
        problem.add_row([1])
        self.assertEqual(first, "a = b or not a or f(a, g(b)) = a\n")
        self.assertEqual(written(problem), first + "p\n")


if __name__ == "__main__":
    unittest.main()
