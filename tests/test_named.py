"""Points 31 and 32, and points 1 to 3 as far as they touch them."""

import copy
import itertools
import random
import unittest

from helping import KEPT, all_held, fields, holds, names, plain_names, random_formula, refusal
from yesorno.choices import chosen
from yesorno.errors import BadName, TooMany
from yesorno.named import named
from yesorno.problems import Problem
from yesorno.understood import understood

P, Q, R = ("plain", "p"), ("plain", "q"), ("plain", "r")
A, B, C = ("a", ()), ("b", ()), ("c", ())


def new_names(formulas):
    """The names of 31 one by one."""
    plain = [name for formula in formulas for name in plain_names(formula)]
    for many in itertools.count(1):
        for letters in itertools.product("abcdefghijklmnopqrstuvwxyz", repeat=many):
            name = "z" + "".join(letters)
            if name not in plain:
                yield name


def by_hand(formulas):
    """What 31 and 32 say, word by word."""
    problem = Problem()
    fresh = new_names(formulas)

    def term(tree):
        return problem.add_term(tree[0], [term(part) for part in tree[1]])

    def part(formula):
        kind = formula[0]
        if kind == "plain":
            return problem.add_plain(formula[1])
        if kind == "same":
            one = term(formula[1])
            return problem.add_same(one, term(formula[2]))
        if kind == "not":
            return -part(formula[1])
        if kind == "unlike":
            terms = [term(tree) for tree in formula[1]]
            same = [problem.add_same(one, other) for one, other in itertools.combinations(terms, 2)]
            n = problem.add_plain(next(fresh))
            rows = [(-n, -s) for s in same] + [[n] + same]
        elif len(formula) == 1:
            n = problem.add_plain(next(fresh))
            rows = [(n,)] if kind == "always" else [(-n,)]
        else:
            f = part(formula[1])
            g = part(formula[2])
            n = problem.add_plain(next(fresh))
            rows = {"and": [(-n, f), (-n, g), (n, -f, -g)],
                    "or": [(-n, f, g), (n, -f), (n, -g)],
                    "then": [(-n, -f, g), (n, f), (n, -g)],
                    "as": [(-n, -f, g), (-n, f, -g), (n, f, g), (n, -f, -g)]}[kind]
        for row in rows:
            problem.add_row(row)
        return n

    for formula in formulas:
        problem.add_row([part(formula)])
    return problem


class Named(unittest.TestCase):
    def check(self, formulas, wanted=None):
        kept = copy.deepcopy(formulas)
        problem = named(formulas)
        self.assertEqual(formulas, kept)
        self.assertIsInstance(problem, Problem)
        self.assertEqual(fields(problem), fields(by_hand(formulas)))
        self.assertEqual(fields(named(formulas)), fields(problem))
        if wanted is not None:
            self.assertEqual(fields(problem), wanted)
        return problem

    def test_no_formulas(self):
        self.check([], ([], [], []))

    def test_plain_ones(self):
        self.check([P], ([], [("plain", "p")], [(1,)]))
        self.check([Q, P, Q], ([], [("plain", "q"), ("plain", "p")], [(1,), (2,), (1,)]))

    def test_samenesses(self):
        self.check([("same", A, B)], ([A, B], [("same", 0, 1)], [(1,)]))
        self.check([("same", B, A), ("same", A, B)], ([B, A], [("same", 0, 1)], [(1,), (1,)]))
        self.check([("same", A, A)], ([A], [("same", 0, 0)], [(1,)]))
        self.check([("same", ("f", (A, ("g", (B,)))), ("g", (C,)))],
                   ([A, B, ("g", (1,)), ("f", (0, 2)), C, ("g", (4,))], [("same", 3, 5)], [(1,)]))

    def test_not(self):
        self.check([("not", P)], ([], [("plain", "p")], [(-1,)]))
        self.check([("not", ("not", P))], ([], [("plain", "p")], [(1,)]))
        self.check([("not", ("not", ("not", ("same", A, B))))], ([A, B], [("same", 0, 1)], [(-1,)]))
        self.check([("not", ("always",))], ([], [("plain", "za")], [(1,), (-1,)]))

    def test_always_and_never(self):
        self.check([("always",)], ([], [("plain", "za")], [(1,), (1,)]))
        self.check([("never",)], ([], [("plain", "za")], [(-1,), (1,)]))
        self.check([("always",), ("never",)],
                   ([], [("plain", "za"), ("plain", "zb")], [(1,), (1,), (-2,), (2,)]))

    def test_rows_of_two(self):
        atoms = [("plain", "p"), ("plain", "q"), ("plain", "za")]
        self.check([("and", P, Q)], ([], atoms, [(-3, 1), (-3, 2), (3, -1, -2), (3,)]))
        self.check([("or", P, Q)], ([], atoms, [(-3, 1, 2), (3, -1), (3, -2), (3,)]))
        self.check([("then", P, Q)], ([], atoms, [(-3, -1, 2), (3, 1), (3, -2), (3,)]))
        self.check([("as", P, Q)], ([], atoms, [(-3, -1, 2), (-3, 1, -2), (3, 1, 2), (3, -1, -2), (3,)]))

    def test_rows_of_opposites(self):
        atoms = [("plain", "p"), ("plain", "q"), ("plain", "za")]
        self.check([("and", ("not", P), Q)], ([], atoms, [(-3, -1), (-3, 2), (3, 1, -2), (3,)]))
        self.check([("then", P, ("not", Q))], ([], atoms, [(-3, -1, -2), (3, 1), (3, 2), (3,)]))
        self.check([("not", ("or", P, ("not", Q)))], ([], atoms, [(-3, 1, -2), (3, -1), (3, 2), (-3,)]))

    def test_one_formula_twice_within(self):
        atoms = [("plain", "p"), ("plain", "za")]
        self.check([("and", P, P)], ([], atoms, [(-2, 1), (-2, 1), (2, -1), (2,)]))
        self.check([("as", P, ("not", P))], ([], atoms, [(-2, -1), (-2, 1), (2, 1, -1), (2, -1, 1), (2,)]))

    def test_from_within_outward(self):
        self.check([("or", ("and", P, Q), ("not", ("and", Q, R)))],
                   ([], [("plain", "p"), ("plain", "q"), ("plain", "za"), ("plain", "r"), ("plain", "zb"),
                         ("plain", "zc")],
                    [(-3, 1), (-3, 2), (3, -1, -2), (-5, 2), (-5, 4), (5, -2, -4), (-6, 3, -5), (6, -3), (6, 5), (6,)]))

    def test_alike_formulas_get_an_atom_each(self):
        problem = self.check([("and", P, Q), ("and", P, Q)])
        self.assertEqual(problem.atoms[2:], [("plain", "za"), ("plain", "zb")])
        problem = self.check([("or", ("always",), ("always",))])
        self.assertEqual([name for kind, name in problem.atoms], ["za", "zb", "zc"])
        problem = self.check([("unlike", (A, B)), ("unlike", (A, B))])
        self.assertEqual(problem.atoms, [("same", 0, 1), ("plain", "za"), ("plain", "zb")])

    def test_unlike(self):
        self.check([("unlike", (A, B))],
                   ([A, B], [("same", 0, 1), ("plain", "za")], [(-2, -1), (2, 1), (2,)]))
        problem = self.check([("unlike", (A, B, C))])
        self.assertEqual(problem.atoms, [("same", 0, 1), ("same", 0, 2), ("same", 1, 2), ("plain", "za")])
        self.assertEqual(problem.rows, [(-4, -1), (-4, -2), (-4, -3), (4, 1, 2, 3), (4,)])

    def test_unlike_of_five(self):
        five = [(name, ()) for name in "abcde"]
        problem = self.check([("not", ("unlike", tuple(five)))])
        self.assertEqual(problem.terms, five)
        self.assertEqual(problem.atoms[:10], [("same",) + pair for pair in itertools.combinations(range(5), 2)])
        self.assertEqual(problem.rows[10:], [(11,) + tuple(range(1, 11)), (-11,)])

    def test_all_terms_of_unlike_ahead_of_its_samenesses(self):
        problem = self.check([("unlike", (("f", (A,)), ("g", (B,)), A))])
        self.assertEqual(problem.terms, [A, ("f", (0,)), B, ("g", (2,))])
        self.assertEqual(problem.atoms, [("same", 1, 3), ("same", 1, 0), ("same", 3, 0), ("plain", "za")])

    def test_unlike_with_samenesses_that_are_there(self):
        problem = self.check([("same", B, A), ("unlike", (A, B, C))])
        self.assertEqual(problem.atoms, [("same", 0, 1), ("same", 1, 2), ("same", 0, 2), ("plain", "za")])

    def test_unlike_of_trees_that_are_the_same(self):
        self.check([("unlike", (A, A))], ([A], [("same", 0, 0), ("plain", "za")], [(-2, -1), (2, 1), (2,)]))
        self.check([("unlike", (A, B, A))])

    def test_new_names_pass_over_plain_names(self):
        za, zb, zd = ("plain", "za"), ("plain", "zb"), ("plain", "zd")
        problem = self.check([za, ("and", P, Q)])
        self.assertEqual(problem.atoms[-1], ("plain", "zb"))
        problem = self.check([("always",), ("not", ("or", za, ("never",)))])
        self.assertEqual([name for kind, name in problem.atoms], ["zb", "za", "zc", "zd"])
        problem = self.check([("always",), ("always",), zd, ("always",), zb, ("never",)])
        self.assertEqual([name for kind, name in problem.atoms], ["za", "zc", "zd", "ze", "zb", "zf"])

    def test_new_names_look_at_no_trees(self):
        problem = self.check([("same", ("za", ()), ("zb", (A,))), ("always",)])
        self.assertEqual(problem.atoms[-1], ("plain", "za"))

    def test_many_new_names(self):
        problem = self.check([("always",)] * 40)
        self.assertEqual([name for kind, name in problem.atoms][24:29], ["zy", "zz", "zaa", "zab", "zac"])
        self.assertEqual(problem.atoms[-1], ("plain", "zan"))

    def test_names_far_behind(self):
        # The names of plain atoms that come too late to be added are passed over, too.
        late = [("plain", "z" + letter) for letter in "abcdefghijklmnopqrstuvwxyz"]
        late += [("plain", "z" + one + other) for one in "abcdefghijklmnopqrstuvwxyz"
                 for other in "abcdefghijklmnopqrstuvwxyz"]
        self.assertEqual(refusal(named, [("always",)] + late), TooMany)
        within = late[0]
        for formula in late[1:13]:
            within = ("and", formula, within)
        problem = self.check([within])
        new = [name for kind, name in problem.atoms if name > "zm"]
        self.assertEqual(new, ["z" + letter for letter in "nopqrstuvwxy"])

    def test_texts(self):
        for text in ("(p and not (a = b or unlike(a, f(b))))\nnot (always as q)\n(a = a then p)\nb = a\n",
                     "((p as q) as (q as r))\n((p then never) or not not p)\n"):
            self.check(understood(text))

    def test_by_chance(self):
        chance = random.Random(31)
        for count in range(300):
            formulas = [random_formula(chance, chance.randrange(1, 5), "abf", ("p", "q", "za", "zc"))
                        for row in range(chance.randrange(1, 4))]
            if refusal(named, formulas) is None:
                self.check(formulas)
            else:
                self.assertEqual(refusal(named, formulas), refusal(by_hand, formulas))

    def test_it_holds_just_where_the_formulas_do(self):
        chance = random.Random(32)
        seen = 0
        for count in range(600):
            formula = random_formula(chance, 4, "ab")
            problem = named([formula]) if refusal(named, [formula]) is None else None
            if problem and len(problem.atoms) <= 8:
                for held in all_held(problem):
                    self.assertTrue(holds(formula, chosen(problem, held)))
                opposite = named([("not", formula)])
                for held in all_held(opposite):
                    self.assertFalse(holds(formula, chosen(opposite, held)))
                self.assertTrue(all_held(problem) or all_held(opposite))
                seen += 1
        self.assertGreater(seen, 200)


class Refused(unittest.TestCase):
    def test_words_that_are_no_names(self):
        for word in KEPT + ("", "A", "abcdefghi", "a b", "a1"):
            tree = (word, ())
            for formula in (("plain", word), ("same", A, tree), ("same", ("f", (tree,)), A), ("unlike", (A, tree)),
                            ("and", P, ("not", ("plain", word)))):
                self.assertEqual(refusal(named, [formula]), BadName, formula)
                self.assertEqual(refusal(named, [P, ("always",), formula]), BadName, formula)

    def test_sixty_terms(self):
        sixty = [("same", (one, ()), (other, ())) for one, other in zip(names(60)[:30], names(60)[30:])]
        self.assertEqual(len(named(sixty).terms), 60)
        self.assertEqual(refusal(named, sixty + [("same", ("xyz", ()), ("aa", ()))]), TooMany)
        self.assertEqual(len(named(sixty + [("same", ("ab", ()), ("aa", ()))]).terms), 60)

    def test_forty_atoms(self):
        forty = [("plain", name) for name in names(40)]
        self.assertEqual(len(named(forty + forty).atoms), 40)
        self.assertEqual(refusal(named, forty + [("plain", "xyz")]), TooMany)
        self.assertEqual(refusal(named, forty + [("always",)]), TooMany)
        self.assertEqual(len(named(forty[:39] + [("always",)]).atoms), 40)
        self.assertEqual(refusal(named, forty[:39] + [("always",)] * 2), TooMany)
        self.assertEqual(refusal(named, forty + [("same", A, B)]), TooMany)

    def test_two_hundred_rows(self):
        self.assertEqual(len(named([P] * 200).rows), 200)
        self.assertEqual(refusal(named, [P] * 201), TooMany)
        self.assertEqual(len(named([("and", P, Q)] + [P] * 196).rows), 200)
        self.assertEqual(refusal(named, [("and", P, Q)] + [P] * 197), TooMany)
        self.assertEqual(refusal(named, [P] * 197 + [("and", P, Q)]), TooMany)

    def test_the_first_of_these(self):
        self.assertEqual(refusal(named, [P] * 201 + [("plain", "or")]), TooMany)
        self.assertEqual(refusal(named, [P] * 200 + [("plain", "or")]), BadName)
        forty = [("plain", name) for name in names(40)]
        self.assertEqual(refusal(named, forty + [("and", ("plain", "xyz"), ("plain", "or"))]), TooMany)
        self.assertEqual(refusal(named, forty + [("and", ("plain", "or"), ("plain", "xyz"))]), BadName)


class Own(unittest.TestCase):
    def test_what_was_told_stays(self):
        formulas = [("and", P, Q)]
        first = named(formulas)
        kept = fields(first)
        formulas.append(R)
        second = named(formulas)
        second.add_row([1])
        self.assertEqual(fields(first), kept)
        first.add_plain("xyz")
        self.assertEqual(fields(named([("and", P, Q)])), kept)


if __name__ == "__main__":
    unittest.main()
