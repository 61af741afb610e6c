"""Points 26 to 28, and points 1 to 3 as far as they touch choices."""

import copy
import random
import unittest

from helping import all_held, classes, fields, random_problem
from yesorno.choices import Choice, chosen, tried, valued
from yesorno.problems import Problem
from yesorno.reading import read


def value(problem, number, choice):
    """The value of a term by itself, as 1 and 26 have it."""
    name, parts = problem.terms[number]
    sign = (name, tuple(value(problem, part, choice) for part in parts))
    return choice.tables[sign] if sign in choice.tables else 0


def holds(problem, part, choice):
    """Whether a part holds, as 1 and 26 have it."""
    atom = problem.atoms[abs(part) - 1]
    if atom[0] == "plain":
        truth = atom[1] in choice.plain and choice.plain[atom[1]]
    else:
        truth = value(problem, atom[1], choice) == value(problem, atom[2], choice)
    return truth if part > 0 else not truth


def first_row(problem, choice):
    for number, row in enumerate(problem.rows):
        if not any(holds(problem, part, choice) for part in row):
            return number
    return None


class Made(unittest.TestCase):
    def test_the_very_dicts(self):
        plain = {"p": True}
        tables = {("a", ()): 3}
        choice = Choice(plain, tables)
        self.assertIs(choice.plain, plain)
        self.assertIs(choice.tables, tables)
        choice = Choice(plain=plain, tables=tables)
        self.assertIs(choice.plain, plain)
        self.assertIs(choice.tables, tables)
        empty = {}
        self.assertIs(Choice(empty, tables).plain, empty)
        self.assertIs(Choice(plain, empty).tables, empty)

    def test_two_choices(self):
        one = Choice({}, {})
        other = Choice({}, {})
        one.plain["p"] = True
        self.assertEqual(other.plain, {})


class Chosen(unittest.TestCase):
    def check(self, problem, held):
        kept = fields(problem), list(held)
        choice = chosen(problem, held)
        self.assertEqual((fields(problem), list(held)), kept)
        self.assertIsInstance(choice, Choice)
        self.assertIs(type(choice.plain), dict)
        self.assertIs(type(choice.tables), dict)
        for again in (chosen(problem, tuple(held)), chosen(problem, list(held))):
            self.assertEqual(list(again.plain.items()), list(choice.plain.items()))
            self.assertEqual(list(again.tables.items()), list(choice.tables.items()))
        plain = [(atom[1], number + 1 in held) for number, atom in enumerate(problem.atoms) if atom[0] == "plain"]
        self.assertEqual(list(choice.plain.items()), plain)
        self.assertTrue(all(truth is True or truth is False for truth in choice.plain.values()))
        pairs = [problem.atoms[part - 1][1:] for part in held if part > 0 and problem.atoms[part - 1][0] == "same"]
        values = classes(problem.terms, pairs)
        signs = {}
        for number, (name, parts) in enumerate(problem.terms):
            signs.setdefault((name, tuple(values[part] for part in parts)), values[number])
        self.assertEqual(list(choice.tables.items()), list(signs.items()))
        self.assertEqual(valued(problem, choice), values)
        return choice

    def test_nothing(self):
        choice = self.check(Problem(), [])
        self.assertEqual((choice.plain, choice.tables), ({}, {}))

    def test_plain_names_in_the_order_of_the_atoms(self):
        problem = read("q or p or a = b or r\n")
        choice = self.check(problem, [1, -2, -3, 4])
        self.assertEqual(list(choice.plain.items()), [("q", True), ("p", False), ("r", True)])

    def test_terms_that_are_joined_have_one_value(self):
        problem = read("c = b or a = b\n")
        choice = self.check(problem, [1, 2])
        self.assertEqual(list(choice.tables.items()), [(("c", ()), 0), (("b", ()), 0), (("a", ()), 0)])
        choice = self.check(problem, [-1, 2])
        self.assertEqual(list(choice.tables.items()), [(("c", ()), 0), (("b", ()), 1), (("a", ()), 1)])
        choice = self.check(problem, [-1, -2])
        self.assertEqual(list(choice.tables.items()), [(("c", ()), 0), (("b", ()), 1), (("a", ()), 2)])

    def test_functions(self):
        problem = read("a = b or f(a) = c or f(b) = g(c, a)\n")
        choice = self.check(problem, [1, -2, -3])
        self.assertEqual(list(choice.tables.items()),
                         [(("a", ()), 0), (("b", ()), 0), (("f", (0,)), 2), (("c", ()), 3), (("g", (3, 0)), 5)])
        choice = self.check(problem, [1, 2, 3])
        self.assertEqual(choice.tables, {("a", ()): 0, ("b", ()): 0, ("f", (0,)): 2, ("c", ()): 2, ("g", (2, 0)): 2})

    def test_one_name_with_other_counts_of_parts(self):
        problem = read("f = f(f) or f(f, f) = f\n")
        choice = self.check(problem, [-1, -2])
        self.assertEqual(choice.tables, {("f", ()): 0, ("f", (0,)): 1, ("f", (0, 0)): 2})

    def test_terms_joined_by_functions_alone(self):
        problem = read("a = b or f(a) = c or f(b) = d\n")
        choice = self.check(problem, [1, -2, -3])
        self.assertEqual(choice.tables[("f", (0,))], 2)
        self.assertEqual(len(choice.tables), 5)

    def test_by_chance(self):
        chance = random.Random(27)
        for count in range(150):
            problem = random_problem(chance, terms=chance.choice((0, 3, 7)), atoms=5, rows=chance.randrange(5))
            for held in all_held(problem):
                choice = self.check(problem, held)
                self.assertIsNone(tried(problem, choice))
                for part in held:
                    self.assertTrue(holds(problem, part, choice))

    def test_what_was_told_stays(self):
        problem = read("p or a = b\n")
        choice = chosen(problem, [1, -2])
        problem.add_term("c", ())
        problem.add_plain("q")
        other = chosen(problem, [-1, 2, 3])
        self.assertEqual((choice.plain, choice.tables), ({"p": True}, {("a", ()): 0, ("b", ()): 1}))
        other.plain.clear()
        other.tables.clear()
        self.assertEqual(choice.plain, {"p": True})
        self.assertEqual(chosen(problem, [-1, 2, 3]).plain, {"p": False, "q": True})


class Valued(unittest.TestCase):
    def test_by_the_choice_alone(self):
        problem = read("a = b or f(a) = f(b) or g(a, f(a)) = a\n")
        choice = Choice({}, {("a", ()): 7, ("b", ()): 9, ("f", (7,)): 9, ("f", (9,)): 2, ("g", (7, 9)): 100})
        self.assertEqual(valued(problem, choice), [7, 9, 9, 2, 100])

    def test_what_tables_lack_is_nought(self):
        problem = read("a = b or f(a) = f(b) or g(a, f(a)) = a\n")
        self.assertEqual(valued(problem, Choice({}, {})), [0, 0, 0, 0, 0])
        self.assertEqual(valued(problem, Choice({}, {("f", (0,)): 5})), [0, 0, 5, 5, 0])
        self.assertEqual(valued(problem, Choice({}, {("a", ()): 4, ("f", (0,)): 5, ("f", ()): 6})), [4, 0, 0, 5, 0])

    def test_every_place_counts(self):
        problem = read("f(a, b) = f(b, a)\n")
        tables = {("a", ()): 1, ("f", (1, 0)): 2, ("f", (0, 1)): 3, ("f", (1,)): 4}
        self.assertEqual(valued(problem, Choice({}, tables)), [1, 0, 2, 3])

    def test_values_that_no_term_has(self):
        problem = read("a = b\n")
        self.assertEqual(valued(problem, Choice({}, {("a", ()): 10 ** 30, ("b", ()): 59})), [10 ** 30, 59])

    def test_no_terms(self):
        told = valued(Problem(), Choice({"p": True}, {("a", ()): 1}))
        self.assertEqual(told, [])
        self.assertIs(type(told), list)

    def test_what_is_handed_in_stays(self):
        problem = read("a = b or f(a) = p\n")
        kept = fields(problem)
        plain, tables = {"q": True}, {("a", ()): 2}
        choice = Choice(plain, tables)
        told = valued(problem, choice)
        tried(problem, choice)
        self.assertEqual((plain, tables), ({"q": True}, {("a", ()): 2}))
        self.assertIs(choice.plain, plain)
        self.assertIs(choice.tables, tables)
        self.assertEqual(fields(problem), kept)
        tables[("b", ())] = 3
        self.assertEqual(told, [2, 0, 0, 0])
        self.assertEqual(valued(problem, choice), [2, 3, 0, 0])


class Tried(unittest.TestCase):
    def test_without_rows(self):
        self.assertIsNone(tried(Problem(), Choice({}, {})))

    def test_a_row_without_parts(self):
        self.assertEqual(tried(read("never\n"), Choice({}, {})), 0)
        self.assertEqual(tried(read("p\nnever\n"), Choice({"p": True}, {})), 1)

    def test_plain_names(self):
        problem = read("p\nnot q\n")
        self.assertIsNone(tried(problem, Choice({"p": True, "q": False}, {})))
        self.assertIsNone(tried(problem, Choice({"p": True}, {})))
        self.assertEqual(tried(problem, Choice({"p": True, "q": True}, {})), 1)
        self.assertEqual(tried(problem, Choice({"p": False}, {})), 0)
        self.assertEqual(tried(problem, Choice({}, {})), 0)
        self.assertEqual(tried(problem, Choice({"q": True}, {})), 0)

    def test_samenesses(self):
        problem = read("a = b\nnot f(a) = a\n")
        self.assertIsNone(tried(problem, Choice({}, {("f", (0,)): 1})))
        self.assertEqual(tried(problem, Choice({}, {})), 1)
        self.assertEqual(tried(problem, Choice({}, {("a", ()): 1})), 0)
        self.assertIsNone(tried(problem, Choice({}, {("a", ()): 1, ("b", ()): 1})))
        self.assertEqual(tried(problem, Choice({}, {("a", ()): 1, ("b", ()): 1, ("f", (1,)): 1})), 1)

    def test_a_function_and_a_plain_name_of_one_name(self):
        problem = read("p\np = q\n")
        self.assertIsNone(tried(problem, Choice({"p": True}, {})))
        self.assertEqual(tried(problem, Choice({"p": True}, {("p", ()): 1})), 1)

    def test_one_part_that_holds_is_enough(self):
        problem = read("p or not q or a = b\n")
        self.assertEqual(tried(problem, Choice({"q": True}, {("a", ()): 1})), 0)
        self.assertIsNone(tried(problem, Choice({"q": True, "p": True}, {("a", ()): 1})))
        self.assertIsNone(tried(problem, Choice({}, {("a", ()): 1})))
        self.assertIsNone(tried(problem, Choice({"q": True}, {})))

    def test_the_first_row(self):
        problem = read("p or q\np\nq\np\n")
        self.assertEqual(tried(problem, Choice({"q": True}, {})), 1)
        self.assertEqual(tried(problem, Choice({"p": True}, {})), 2)

    def test_opposite_parts(self):
        problem = read("p or not p\nnot a = b or a = b\n")
        self.assertIsNone(tried(problem, Choice({}, {})))
        self.assertIsNone(tried(problem, Choice({"p": True}, {("a", ()): 4})))

    def test_by_chance(self):
        chance = random.Random(28)
        seen = {}
        for count in range(1500):
            problem = random_problem(chance, terms=4, atoms=5, rows=3)
            tables = {}
            for number in range(chance.randrange(12)):
                sign = (chance.choice("abf"), tuple(chance.randrange(3) for part in range(chance.randrange(3))))
                tables[sign] = chance.randrange(3)
            names = [atom[1] for atom in problem.atoms if atom[0] == "plain"]
            choice = Choice({name: chance.random() < 0.5 for name in names if chance.random() < 0.8}, tables)
            kept = copy.deepcopy((choice.plain, choice.tables))
            told = tried(problem, choice)
            self.assertEqual(told, first_row(problem, choice))
            self.assertEqual(valued(problem, choice), [value(problem, number, choice) for number in range(4)])
            self.assertEqual((choice.plain, choice.tables), kept)
            seen[told] = seen.get(told, 0) + 1
        self.assertGreater(min(seen[told] for told in (None, 0, 1, 2)), 50)


if __name__ == "__main__":
    unittest.main()
