"""Point 24, and point 3 as far as it touches it."""

import random
import unittest

from helping import clashing_atoms, equal_by_hand, fields, random_problem
from yesorno.clashes import clash
from yesorno.joins import links
from yesorno.papers import fault
from yesorno.problems import Problem
from yesorno.reading import read
from yesorno.ways import ways


class Clash(unittest.TestCase):
    def check(self, problem, held):
        """Asks for a clash and looks whether it is as 24 has it."""
        kept = fields(problem), list(held)
        line = clash(problem, held)
        self.assertEqual((fields(problem), list(held)), kept)
        self.assertEqual(clash(problem, tuple(held)), line)
        self.assertEqual(clash(problem, list(held)), line)
        found = clashing_atoms(problem, held)
        if not found:
            self.assertIsNone(line)
            return None
        self.assertIs(type(line), tuple)
        word, parts, told = line
        self.assertEqual((word, type(parts), type(told)), ("equal", tuple, tuple))
        self.assertEqual(parts[0], found[0])
        self.assertTrue(all(-part in held for part in parts))
        self.assertEqual(len(set(parts)), len(parts))
        self.assertEqual(parts[1:], tuple(-how for one, other, how in told if how > 0))
        self.assertTrue(equal_by_hand(problem, parts, told))
        self.assertEqual(fault(problem, [line]), 1)
        self.check_links(problem, parts[0], told)
        return line

    def check_links(self, problem, atom, told):
        """They are links as in 12 (a) to (c), and no one of them is there without need."""
        plain = [(one, other, -1 if how == 0 else how) for one, other, how in told]
        same, one, other = problem.atoms[atom - 1]
        self.assertEqual(ways(problem.terms, plain, one, other), plain)
        for start, end, how in told:
            if how > 0:
                self.assertEqual(problem.atoms[how - 1], ("same", start, end))

    def test_nothing_held(self):
        self.assertIsNone(self.check(Problem(), []))
        self.assertIsNone(self.check(read("a = b or b = c or a = c\n"), []))

    def test_no_clash(self):
        problem = read("a = b or b = c or a = c or p\n")
        for held in ([1], [-1], [1, 2], [1, 2, 3], [1, -2], [1, -2, -3], [-1, -2, -3], [4], [-4, 1, 2, 3]):
            self.assertIsNone(self.check(problem, held))

    def test_a_chain(self):
        problem = read("a = b or b = c or a = c\n")
        line = self.check(problem, [1, 2, -3])
        self.assertEqual(line[1][0], 3)
        self.assertEqual(sorted(line[1][1:]), [-2, -1])
        self.assertEqual(sorted(line[2]), [(0, 1, 1), (1, 2, 2)])
        self.assertEqual(self.check(problem, [-1, 2, 3])[1][0], 1)
        self.assertEqual(self.check(problem, [3, -2, 1])[1][0], 2)

    def test_a_function(self):
        problem = read("a = b or f(a) = f(b)\n")
        line = self.check(problem, [1, -2])
        self.assertEqual((line[0], line[1], line[2][0]), ("equal", (2, -1), (0, 1, 1)))
        self.assertIn(line[2][1:], [((2, 3, 0),), ((3, 2, 0),)])
        self.assertIsNone(self.check(problem, [-1, 2]))
        self.assertIsNone(self.check(problem, [-1, -2]))

    def test_the_order_of_terms_in_an_atom(self):
        problem = read("b = a or c = b or a = c\n")
        line = self.check(problem, [2, 1, -3])
        self.assertEqual(sorted(line[2]), [(0, 1, 1), (2, 0, 2)])

    def test_a_term_with_itself(self):
        problem = read("a = a or b = b or a = b\n")
        self.assertEqual(self.check(problem, [-1]), ("equal", (1,), ()))
        self.assertEqual(self.check(problem, [3, -2]), ("equal", (2,), ()))
        self.assertEqual(self.check(problem, [-2, -1, 3]), ("equal", (1,), ()))
        self.assertIsNone(self.check(problem, [1, 2, -3]))

    def test_the_first_by_the_atoms_numbers(self):
        problem = read("a = b or f(a) = f(b) or f(f(a)) = f(f(b)) or c = a or f(c) = f(a)\n")
        self.assertEqual(self.check(problem, [-3, -2, 1])[1], (2, -1))
        self.assertEqual(self.check(problem, [-5, 4, -3, 1])[1], (3, -1))
        self.assertEqual(self.check(problem, [-5, 4, -3, -1])[1], (5, -4))
        self.assertEqual(self.check(problem, [-5, -4, -3, 1, 2])[1][0], 3)

    def test_links_without_need_are_left_out(self):
        problem = read("a = b or c = d or f(c) = f(d) or b = c or f(a) = f(b)\n")
        self.assertEqual(self.check(problem, [1, 2, -3])[1], (3, -2))
        self.assertEqual(self.check(problem, [2, 1, -5, 3])[1], (5, -1))

    def test_two_atoms_of_terms_joined_by_functions(self):
        problem = read("f(a) = c or f(b) = c or a = b\n")
        line = self.check(problem, [3, 1, -2])
        self.assertEqual((line[1][0], sorted(line[1][1:])), (2, [-3, -1]))
        self.assertIsNone(self.check(problem, [1, 2, -3]))
        line = self.check(problem, [3, -1, 2])
        self.assertEqual(line[1][0], 1)

    def test_a_chain_of_one_name(self):
        problem = read("f(f(f(a))) = a or f(f(f(f(f(a))))) = a or f(a) = a\n")
        line = self.check(problem, [1, 2, -3])
        self.assertEqual((line[1][0], sorted(line[1][1:])), (3, [-2, -1]))
        self.assertIsNone(self.check(problem, [1, -2, -3]))
        self.assertIsNone(self.check(problem, [-1, 2, -3]))

    def test_plain_atoms_do_not_clash(self):
        problem = read("p or q or a = b\n")
        for held in ([1, -2], [-1, -2, -3], [1, 2, 3]):
            self.assertIsNone(self.check(problem, held))

    def test_every_held_of_some(self):
        for text in ("a = b or b = c or c = d or a = d or p\n", "f(a, b) = f(b, a) or a = b or g(a) = b or g(b) = a\n",
                     "a = a or f(a) = a or f(f(a)) = f(a) or f(f(a)) = a\n"):
            problem = read(text)
            many = len(problem.atoms)
            for code in range(3 ** many):
                signs = [code // 3 ** place % 3 - 1 for place in range(many)]
                self.check(problem, [sign * (place + 1) for place, sign in enumerate(signs) if sign])

    def test_by_chance(self):
        chance = random.Random(24)
        seen = 0
        for count in range(600):
            problem = random_problem(chance, terms=chance.randrange(2, 12), atoms=9, rows=0, plain=1)
            many = len(problem.atoms)
            atoms = chance.sample(range(1, many + 1), chance.randrange(many + 1))
            held = [chance.choice((1, 1, -1)) * atom for atom in atoms]
            seen += self.check(problem, held) is not None
        self.assertGreater(seen, 100)

    def test_many_atoms_and_terms(self):
        chance = random.Random(240)
        for count in range(20):
            problem = random_problem(chance, terms=40, atoms=40, rows=0, plain=2)
            self.check(problem, [chance.choice((1, -1)) * (place + 1) for place in range(len(problem.atoms))])

    def test_what_was_told_stays(self):
        problem = read("a = b or f(a) = f(b)\n")
        held = [1, -2]
        line = clash(problem, held)
        kept = (line[0], line[1], line[2])
        problem.add_same(0, 3)
        held.append(3)
        clash(problem, held)
        self.assertEqual(line, kept)
        self.assertEqual(links(problem.terms, [(0, 1)])[0], (0, 1, 0))


if __name__ == "__main__":
    unittest.main()
