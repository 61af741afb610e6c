"""Points 4 to 8, and point 3 as far as it touches them."""

import string
import unittest

from helping import KEPT, fields, names, problem_of, refusal
from yesorno.errors import BadName, BadPart, BadTerm, TooMany
from yesorno.problems import Problem, is_name

BAD_NAMES = ("", "A", "a1", "a b", "a_b", "abcdefghi", "f(a)", "a\n") + KEPT


class Names(unittest.TestCase):
    def test_lengths(self):
        self.assertIs(is_name(""), False)
        for length in range(1, 9):
            self.assertIs(is_name("abcdefgh"[:length]), True, length)
        self.assertIs(is_name("abcdefghi"), False)
        self.assertIs(is_name("z" * 8), True)
        self.assertIs(is_name("z" * 9), False)
        self.assertIs(is_name("z" * 100), False)

    def test_every_small_letter(self):
        for letter in string.ascii_lowercase:
            self.assertIs(is_name(letter), True, letter)
            self.assertIs(is_name("q" + letter + "q"), True, letter)

    def test_kept_words(self):
        for word in KEPT:
            self.assertIs(is_name(word), False, word)

    def test_words_near_to_kept_ones(self):
        near = ("o", "r", "ors", "nor", "ro", "an", "ands", "band", "no", "nots", "knot", "ton",
                "neve", "nevers", "ever", "alway", "alwaysz", "the", "thens", "hen", "a", "ass",
                "has", "sa", "unlik", "unlikes", "like", "plain", "same", "equal", "learnt",
                "none", "yes", "if", "is", "oror", "andor", "notnot")
        for word in near:
            self.assertIs(is_name(word), True, word)

    def test_other_signs_at_any_place(self):
        signs = [chr(code) for code in range(32, 127) if chr(code) not in string.ascii_lowercase]
        for sign in signs + ["\n", "\t", "\u00e4", "\u0430"]:
            for word in (sign, sign + "abc", "a" + sign + "bc", "abc" + sign):
                self.assertIs(is_name(word), False, word)

    def test_kept_words_with_large_letters(self):
        for word in KEPT:
            self.assertIs(is_name(word.upper()), False, word)
            self.assertIs(is_name(word + " "), False, word)


class Empty(unittest.TestCase):
    def test_three_empty_lists(self):
        problem = Problem()
        for field in (problem.terms, problem.atoms, problem.rows):
            self.assertIs(type(field), list)
            self.assertEqual(field, [])

    def test_two_problems_have_nothing_to_do_with_one_another(self):
        one = Problem()
        other = Problem()
        one.add_term("a", [])
        one.add_same(0, 0)
        one.add_row([1])
        self.assertEqual(fields(other), ([], [], []))
        self.assertEqual(other.add_term("b", []), 0)
        self.assertEqual(other.add_plain("p"), 1)
        self.assertEqual(other.add_row([-1]), 0)
        self.assertEqual(fields(one), ([("a", ())], [("same", 0, 0)], [(1,)]))
        self.assertEqual(fields(Problem()), ([], [], []))


class Terms(unittest.TestCase):
    def test_numbers_from_nought_and_tuples(self):
        problem = Problem()
        self.assertEqual(problem.add_term("a", []), 0)
        self.assertEqual(problem.add_term("b", ()), 1)
        self.assertEqual(problem.add_term("f", [0, 1]), 2)
        self.assertEqual(problem.add_term("g", (2, 0, 2)), 3)
        self.assertEqual(problem.terms, [("a", ()), ("b", ()), ("f", (0, 1)), ("g", (2, 0, 2))])
        for term in problem.terms:
            self.assertIs(type(term), tuple)
            self.assertIs(type(term[1]), tuple)
        self.assertEqual((problem.atoms, problem.rows), ([], []))

    def test_alike_gives_the_number_that_is_there(self):
        problem = Problem()
        problem.add_term("a", [])
        problem.add_term("b", [])
        problem.add_term("f", [0, 1])
        for count in range(2):
            self.assertEqual(problem.add_term("a", ()), 0)
            self.assertEqual(problem.add_term("b", []), 1)
            self.assertEqual(problem.add_term("f", (0, 1)), 2)
            self.assertEqual(problem.add_term("f", [0, 1]), 2)
        self.assertEqual(len(problem.terms), 3)

    def test_one_name_with_other_parts_is_another_term(self):
        problem = Problem()
        told = [(), (0,), (0, 0), (0, 0, 0), (1,), (0, 1), (1, 0)]
        for place, parts in enumerate(told):
            self.assertEqual(problem.add_term("f", parts), place)
        self.assertEqual(problem.terms, [("f", parts) for parts in told])

    def test_sixty_terms(self):
        problem = Problem()
        for place, name in enumerate(names(60)):
            self.assertEqual(problem.add_term(name, []), place)
        before = fields(problem)
        self.assertIs(refusal(problem.add_term, "new", []), TooMany)
        self.assertIs(refusal(problem.add_term, names(1)[0], [0]), TooMany)
        for place, name in enumerate(names(60)):
            self.assertEqual(problem.add_term(name, ()), place)
        self.assertEqual(fields(problem), before)

    def test_sixty_terms_within_one_another(self):
        problem = Problem()
        problem.add_term("a", [])
        for number in range(59):
            self.assertEqual(problem.add_term("f", [number]), number + 1)
        self.assertIs(refusal(problem.add_term, "f", [59]), TooMany)
        self.assertEqual(problem.add_term("f", [58]), 59)

    def test_bad_names(self):
        problem = problem_of(terms=2)
        before = fields(problem)
        for name in BAD_NAMES:
            self.assertIs(refusal(problem.add_term, name, []), BadName, name)
        self.assertEqual(fields(problem), before)

    def test_parts_that_are_no_terms(self):
        problem = problem_of(terms=2, atoms=5, rows=5)
        before = fields(problem)
        for parts in ([2], [-1], [-2], [3], [100], [0, 2], [-1, 0], [0, 1, 2], (1, -1, 1)):
            self.assertIs(refusal(problem.add_term, "f", parts), BadTerm, parts)
        self.assertIs(refusal(Problem().add_term, "f", [0]), BadTerm)
        self.assertEqual(fields(problem), before)

    def test_three_and_four_parts(self):
        problem = problem_of(terms=1)
        self.assertEqual(problem.add_term("f", [0, 0, 0]), 1)
        for many in (4, 5, 60):
            self.assertIs(refusal(problem.add_term, "f", [0] * many), BadTerm, many)
            self.assertIs(refusal(problem.add_term, "f", (0,) * many), BadTerm, many)
        self.assertEqual(len(problem.terms), 2)

    def test_which_refusal_comes(self):
        full = problem_of(terms=60)
        for name in BAD_NAMES:
            self.assertIs(refusal(full.add_term, name, []), BadName)
            self.assertIs(refusal(full.add_term, name, [60]), BadName)
            self.assertIs(refusal(full.add_term, name, [0] * 4), BadName)
        self.assertIs(refusal(full.add_term, "new", [60]), BadTerm)
        self.assertIs(refusal(full.add_term, "new", [-1]), BadTerm)
        self.assertIs(refusal(full.add_term, "new", [0] * 4), BadTerm)
        self.assertIs(refusal(full.add_term, "new", [59]), TooMany)

    def test_parts_stay_and_are_copied(self):
        problem = problem_of(terms=2)
        parts = [0, 1]
        number = problem.add_term("f", parts)
        self.assertEqual(parts, [0, 1])
        parts.append(0)
        parts[0] = 1
        self.assertEqual(problem.terms[number], ("f", (0, 1)))
        self.assertEqual(problem.add_term("f", (0, 1)), number)
        refused = [0, 9]
        self.assertIs(refusal(problem.add_term, "f", refused), BadTerm)
        self.assertEqual(refused, [0, 9])


class Atoms(unittest.TestCase):
    def test_numbers_from_one(self):
        problem = problem_of(terms=2)
        self.assertEqual(problem.add_plain("p"), 1)
        self.assertEqual(problem.add_same(0, 1), 2)
        self.assertEqual(problem.add_plain("q"), 3)
        self.assertEqual(problem.add_same(1, 1), 4)
        self.assertEqual(problem.atoms,
                         [("plain", "p"), ("same", 0, 1), ("plain", "q"), ("same", 1, 1)])
        for atom in problem.atoms:
            self.assertIs(type(atom), tuple)
        self.assertEqual(len(problem.terms), 2)
        self.assertEqual(problem.rows, [])

    def test_alike_gives_the_number_that_is_there(self):
        problem = problem_of(terms=2)
        problem.add_plain("p")
        problem.add_same(0, 1)
        for count in range(2):
            self.assertEqual(problem.add_plain("p"), 1)
            self.assertEqual(problem.add_same(0, 1), 2)
        self.assertEqual(len(problem.atoms), 2)

    def test_told_the_other_way_about(self):
        problem = problem_of(terms=3)
        self.assertEqual(problem.add_same(1, 0), 1)
        self.assertEqual(problem.add_same(0, 1), 1)
        self.assertEqual(problem.add_same(0, 2), 2)
        self.assertEqual(problem.add_same(2, 0), 2)
        self.assertEqual(problem.add_same(2, 1), 3)
        self.assertEqual(problem.add_same(1, 0), 1)
        self.assertEqual(problem.atoms, [("same", 1, 0), ("same", 0, 2), ("same", 2, 1)])

    def test_a_term_with_itself(self):
        problem = problem_of(terms=2)
        self.assertEqual(problem.add_same(1, 1), 1)
        self.assertEqual(problem.add_same(0, 0), 2)
        self.assertEqual(problem.add_same(1, 1), 1)
        self.assertEqual(problem.atoms, [("same", 1, 1), ("same", 0, 0)])

    def test_a_plain_name_may_be_a_term_s(self):
        problem = problem_of(terms=1)
        name = names(1)[0]
        self.assertEqual(problem.add_plain(name), 1)
        self.assertEqual(problem.terms, [(name, ())])
        self.assertEqual(problem.add_plain("same"), 2)
        self.assertEqual(problem.add_plain("plain"), 3)

    def test_forty_atoms(self):
        problem = problem_of(terms=3, atoms=38)
        self.assertEqual(problem.add_same(0, 1), 39)
        self.assertEqual(problem.add_plain("last"), 40)
        before = fields(problem)
        self.assertIs(refusal(problem.add_plain, "new"), TooMany)
        self.assertIs(refusal(problem.add_same, 0, 2), TooMany)
        self.assertIs(refusal(problem.add_same, 0, 0), TooMany)
        self.assertEqual(problem.add_plain("last"), 40)
        self.assertEqual(problem.add_plain(names(1)[0]), 1)
        self.assertEqual(problem.add_same(0, 1), 39)
        self.assertEqual(problem.add_same(1, 0), 39)
        self.assertEqual(fields(problem), before)

    def test_a_sameness_may_be_the_fortieth(self):
        problem = problem_of(terms=2, atoms=39)
        self.assertEqual(problem.add_same(1, 0), 40)
        self.assertEqual(problem.add_same(0, 1), 40)
        self.assertIs(refusal(problem.add_plain, "new"), TooMany)

    def test_bad_names(self):
        problem = Problem()
        for name in BAD_NAMES:
            self.assertIs(refusal(problem.add_plain, name), BadName, name)
        self.assertEqual(fields(problem), ([], [], []))

    def test_no_terms(self):
        problem = problem_of(terms=2, atoms=5)
        before = fields(problem)
        for one, other in ((0, 2), (2, 0), (-1, 0), (0, -1), (2, 2), (-1, -1), (0, 60), (-2, 1)):
            self.assertIs(refusal(problem.add_same, one, other), BadTerm, (one, other))
        self.assertIs(refusal(Problem().add_same, 0, 0), BadTerm)
        self.assertEqual(fields(problem), before)

    def test_which_refusal_comes(self):
        full = problem_of(terms=2, atoms=40)
        for name in BAD_NAMES:
            self.assertIs(refusal(full.add_plain, name), BadName, name)
        self.assertIs(refusal(full.add_same, 0, 2), BadTerm)
        self.assertIs(refusal(full.add_same, -1, 0), BadTerm)
        self.assertIs(refusal(full.add_same, 0, 1), TooMany)


class Rows(unittest.TestCase):
    def test_numbers_from_nought_and_tuples(self):
        problem = problem_of(atoms=3)
        self.assertEqual(problem.add_row([3, -1]), 0)
        self.assertEqual(problem.add_row((-2,)), 1)
        self.assertEqual(problem.add_row([2]), 2)
        self.assertEqual(problem.rows, [(3, -1), (-2,), (2,)])
        for row in problem.rows:
            self.assertIs(type(row), tuple)
        self.assertEqual(len(problem.atoms), 3)

    def test_a_list_and_a_tuple_tell_the_same(self):
        problem = problem_of(atoms=3)
        problem.add_row([1, -3, 1])
        problem.add_row((1, -3, 1))
        self.assertEqual(problem.rows, [(1, -3), (1, -3)])

    def test_told_twice_stands_once_where_it_stood_first(self):
        problem = problem_of(atoms=3)
        problem.add_row([2, 1, 2, -3, 1, -3, 3])
        self.assertEqual(problem.rows, [(2, 1, -3, 3)])

    def test_opposite_parts_stay(self):
        problem = problem_of(atoms=1)
        problem.add_row([1, -1])
        problem.add_row([-1, 1, -1])
        self.assertEqual(problem.rows, [(1, -1), (-1, 1)])

    def test_no_parts(self):
        problem = Problem()
        self.assertEqual(problem.add_row([]), 0)
        self.assertEqual(problem.add_row(()), 1)
        self.assertEqual(problem.rows, [(), ()])

    def test_rows_that_are_alike(self):
        problem = problem_of(atoms=2)
        self.assertEqual([problem.add_row([1, 2]) for count in range(3)], [0, 1, 2])
        self.assertEqual(problem.rows, [(1, 2)] * 3)

    def test_twenty_parts_told(self):
        problem = problem_of(atoms=40)
        many = list(range(1, 21))
        self.assertEqual(problem.add_row(many), 0)
        self.assertEqual(problem.rows, [tuple(many)])
        self.assertIs(refusal(problem.add_row, many + [21]), TooMany)
        self.assertEqual(problem.add_row([1] * 20), 1)
        self.assertIs(refusal(problem.add_row, [1] * 21), TooMany)
        self.assertIs(refusal(problem.add_row, (1, -1) * 11), TooMany)
        self.assertEqual(problem.rows, [tuple(many), (1,)])

    def test_two_hundred_rows(self):
        problem = problem_of(atoms=1)
        for place in range(200):
            self.assertEqual(problem.add_row([1]), place)
        before = fields(problem)
        self.assertIs(refusal(problem.add_row, [1]), TooMany)
        self.assertIs(refusal(problem.add_row, [-1]), TooMany)
        self.assertIs(refusal(problem.add_row, []), TooMany)
        self.assertEqual(fields(problem), before)

    def test_no_parts_of_atoms(self):
        problem = problem_of(terms=5, atoms=2)
        for parts in ([0], [3], [-3], [100], [-100], [1, 0], [1, 3], (2, 1, -3)):
            self.assertIs(refusal(problem.add_row, parts), BadPart, parts)
        self.assertEqual(problem.rows, [])
        for part in (1, -1, 0):
            self.assertIs(refusal(Problem().add_row, [part]), BadPart)
        self.assertEqual(problem.add_row([2, -2, 1, -1]), 0)

    def test_fortieth_atom(self):
        problem = problem_of(atoms=40)
        self.assertEqual(problem.add_row([40, -40]), 0)
        self.assertIs(refusal(problem.add_row, [41]), BadPart)
        self.assertIs(refusal(problem.add_row, [-41]), BadPart)

    def test_bad_part_comes_ahead_of_too_many(self):
        problem = problem_of(atoms=1, rows=200)
        for parts in ([0], [2], [-2], [1] * 20 + [0], [1] * 30 + [2]):
            self.assertIs(refusal(problem.add_row, parts), BadPart, parts)
        other = problem_of(atoms=1)
        self.assertIs(refusal(other.add_row, [1] * 20 + [2]), BadPart)
        self.assertIs(refusal(other.add_row, [0] * 21), BadPart)
        self.assertIs(refusal(other.add_row, [1] * 21), TooMany)

    def test_parts_stay_and_are_copied(self):
        problem = problem_of(atoms=2)
        parts = [2, 1, 2]
        problem.add_row(parts)
        self.assertEqual(parts, [2, 1, 2])
        parts.append(-1)
        parts[0] = -2
        self.assertEqual(problem.rows, [(2, 1)])
        refused = [1, 1, 9]
        self.assertIs(refusal(problem.add_row, refused), BadPart)
        self.assertEqual(refused, [1, 1, 9])

    def test_what_was_told_stays(self):
        problem = problem_of(terms=2, atoms=1)
        term = problem.terms[1]
        atom = problem.atoms[0]
        problem.add_row([1])
        row = problem.rows[0]
        problem.add_term("f", [0])
        problem.add_same(0, 1)
        problem.add_row([2, 1])
        self.assertEqual(term, (names(2)[1], ()))
        self.assertEqual(atom, ("plain", names(1)[0]))
        self.assertEqual(row, (1,))


if __name__ == "__main__":
    unittest.main()
