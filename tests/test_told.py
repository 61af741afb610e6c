"""Point 36, and points 1 to 3 as far as they touch it."""

import random
import unittest

from helping import diamonds, holes, random_problem, refusal
from yesorno.answers import answer
from yesorno.choices import valued
from yesorno.errors import BadName, BadPaper, BadTerm, NoProblem, TooLong, TooMany
from yesorno.papers import lets_by
from yesorno.reading import read
from yesorno.scripts import shown_paper
from yesorno.told import agreed, told
from yesorno.words import shown_term, written


class Told(unittest.TestCase):
    def check(self, text, wanted=None):
        problem = read(text)
        word, found = answer(problem)
        rows = [word]
        if word == "yes":
            for atom in problem.atoms:
                if atom[0] == "plain":
                    rows.append(atom[1] + (" holds" if found.plain[atom[1]] else " does not hold"))
            values = valued(problem, found)
            for number in range(len(problem.terms)):
                rows.append(f"{shown_term(problem, number)} is {values[number]}")
            hand = "\n".join(rows) + "\n"
        else:
            hand = "no\n" + shown_paper(found)
        self.assertEqual(told(text), hand)
        self.assertIs(type(told(text)), str)
        if wanted is not None:
            self.assertEqual(hand, wanted)
        if word == "no":
            self.assertIs(agreed(text, hand[len("no\n"):]), True)
        return hand

    def test_nothing(self):
        self.check("", "yes\n")

    def test_plain_atoms(self):
        self.check("q\nnot p\n", "yes\nq holds\np does not hold\n")
        self.check("not p\np or q\n", "yes\np does not hold\nq holds\n")

    def test_terms(self):
        self.check("a = b\nnot f(a) = b\n", "yes\na is 0\nb is 0\nf(a) is 2\n")
        self.check("not a = g(b, f(a))\n", "yes\na is 0\nb is 1\nf(a) is 2\ng(b, f(a)) is 3\n")
        self.check("a = b\nnot f(a) = c\nnot f(b) = d\nnot c = d\n",
                   "yes\na is 0\nb is 0\nf(a) is 2\nc is 3\nf(b) is 2\nd is 5\n")

    def test_plain_atoms_ahead_of_terms(self):
        self.check("a = b\np\nnot q\n", "yes\np holds\nq does not hold\na is 0\nb is 0\n")

    def test_no(self):
        self.check("never\n", "no\nlearnt none by 0\n")
        for text in ("p\nnot p\n", "a = b\nnot f(a) = f(b)\n", "not a = a\n", written(holes(2, 3)),
                     written(diamonds(2))):
            self.assertTrue(self.check(text).startswith("no\n"))

    def test_by_chance(self):
        chance = random.Random(36)
        for count in range(200):
            self.check(written(random_problem(chance, terms=5, atoms=6, rows=chance.randrange(1, 25), shortest=2)))

    def test_refused_as_read_is(self):
        for text, error in (("p", NoProblem), ("\n", NoProblem), ("or\n", BadName), ("a = f(a, a, a, a)\n", BadTerm),
                            ("p\n" * 201, TooMany), ("not not\n", BadName)):
            self.assertEqual(refusal(told, text), error)
            self.assertEqual(refusal(told, text, 1), error)

    def test_too_long(self):
        text = written(holes(3, 4))
        whole = told(text)
        lines = whole.count("\n") - 1
        self.assertEqual(told(text, lines), whole)
        self.assertEqual(told(text, most=100000), whole)
        self.assertEqual(refusal(told, text, lines - 1), TooLong)
        self.assertEqual(refusal(told, text, 1), TooLong)


class Agreed(unittest.TestCase):
    text = "p or q\np or not q\nnot p or a = b\nnot f(a) = f(b)\n"
    paper = "learnt 1 by 0 1\nlearnt 3 by 4 2\nequal 4 -3 by 0-1-3 2-3-0\nlearnt none by 3 5 6\n"

    def test_a_paper_that_is_let_by(self):
        self.assertIs(agreed(self.text, self.paper), True)
        self.assertIs(agreed("never\n", "learnt none by 0\n"), True)

    def test_with_a_line_or_a_number_changed(self):
        rows = self.paper.splitlines(True)
        for place in range(len(rows)):
            self.assertIs(agreed(self.text, "".join(rows[:place] + rows[place + 1:])), False)
        for old, new in (("learnt 1 by 0 1", "learnt 2 by 0 1"), ("by 0 1\n", "by 1 2\n"), ("by 4 2", "by 5 2"),
                         ("0-1-3", "0-1-2"), ("0-1-3", "0-2-3"), ("2-3-0", "2-3-4"), ("4 -3", "4 3"),
                         ("by 3 5 6", "by 3 5"), ("by 3 5 6", "by 3 5 7"), ("by 3 5 6", "by none"),
                         ("learnt none", "learnt 4"), ("learnt 3", "learnt 30"), ("learnt 1", "learnt 1 1"),
                         ("learnt 1", "learnt 1 -1")):
            self.assertIn(old, self.paper)
            self.assertIs(agreed(self.text, self.paper.replace(old, new)), False, (old, new))

    def test_the_empty_paper(self):
        self.assertIs(agreed(self.text, ""), False)
        self.assertIs(agreed("", ""), False)
        self.assertIs(agreed("never\n", ""), False)

    def test_a_paper_for_another_problem(self):
        self.assertIs(agreed("", self.paper), False)
        self.assertIs(agreed("p\n" + self.text, self.paper), False)
        self.assertIs(agreed(self.text + "q\n", self.paper), False)
        self.assertIs(agreed(self.text.replace("not f", "f"), self.paper), False)

    def test_a_problem_with_a_choice(self):
        for paper in ("learnt none by 0\n", "learnt none by 0 0\n", "learnt none by none\n", self.paper):
            self.assertIs(agreed("p or q\n", paper), False)

    def test_papers_of_answer(self):
        for problem in (holes(2, 3), diamonds(2)):
            paper = answer(problem)[1]
            self.assertTrue(lets_by(problem, paper))
            self.assertIs(agreed(written(problem), shown_paper(paper)), True)
            self.assertIs(agreed(written(problem), shown_paper(paper[:-1])), False)

    def test_refused(self):
        for text, error in (("p", NoProblem), ("or\n", BadName), ("a = f(a, a, a, a)\n", BadTerm),
                            ("p\n" * 201, TooMany)):
            for paper in (self.paper, "", "learnt", "learnt 0 by 1\n"):
                self.assertEqual(refusal(agreed, text, paper), error)
        for paper in ("learnt none by 0", "learnt 0 by 1\n", "\n", "no\nlearnt none by 0\n"):
            self.assertEqual(refusal(agreed, self.text, paper), BadPaper)
            self.assertEqual(refusal(agreed, "", paper), BadPaper)


if __name__ == "__main__":
    unittest.main()
