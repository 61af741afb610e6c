"""Points 29 and 30 as far as they speak of how formulas are read, and point 3 as far as it touches it."""

import itertools
import random
import unittest

from helping import KEPT, is_named, random_formula, readings, refusal, words
from yesorno.errors import BadName, NoProblem
from yesorno.formulas import shown
from yesorno.understood import understood

P, Q, R = ("plain", "p"), ("plain", "q"), ("plain", "r")
A, B, C = ("a", ()), ("b", ()), ("c", ())


def deep_tree(deep):
    return "f(" * (deep - 1) + "a" + ")" * (deep - 1)


class Understood(unittest.TestCase):
    def check(self, text, formula):
        self.assertEqual(understood(text + "\n"), [formula])
        self.assertEqual(shown([formula]), text + "\n")

    def test_the_empty_text(self):
        self.assertEqual(understood(""), [])
        self.assertIs(type(understood("")), list)

    def test_simple_ones(self):
        self.check("always", ("always",))
        self.check("never", ("never",))
        self.check("p", P)
        self.check("abcdefgh", ("plain", "abcdefgh"))
        self.check("alway", ("plain", "alway"))
        self.check("nevers", ("plain", "nevers"))

    def test_samenesses(self):
        self.check("a = b", ("same", A, B))
        self.check("a = a", ("same", A, A))
        self.check("f(a) = g(a, f(b, c, a))", ("same", ("f", (A,)), ("g", (A, ("f", (B, C, A))))))

    def test_unlike(self):
        self.check("unlike(a, b)", ("unlike", (A, B)))
        self.check("unlike(b, a, f(a, b), c, g(c))", ("unlike", (B, A, ("f", (A, B)), C, ("g", (C,)))))
        self.check("unlike(a, f(a), f(f(a)))", ("unlike", (A, ("f", (A,)), ("f", (("f", (A,)),)))))

    def test_not(self):
        self.check("not p", ("not", P))
        self.check("not not p", ("not", ("not", P)))
        self.check("not a = b", ("not", ("same", A, B)))
        self.check("not unlike(a, b)", ("not", ("unlike", (A, B))))
        self.check("not not (p and not q)", ("not", ("not", ("and", P, ("not", Q)))))
        self.check("not never", ("not", ("never",)))
        self.check("nota = b", ("same", ("nota", ()), B))

    def test_of_two(self):
        for word in ("and", "or", "then", "as"):
            self.check(f"(p {word} q)", (word, P, Q))
            self.check(f"(not p {word} a = b)", (word, ("not", P), ("same", A, B)))
            self.check(f"((p {word} q) {word} r)", (word, (word, P, Q), R))
            self.check(f"(p {word} (q or never))", (word, P, ("or", Q, ("never",))))
            self.check(f"(always {word} unlike(a, b))", (word, ("always",), ("unlike", (A, B))))

    def test_row_by_row(self):
        self.assertEqual(understood("p\nnot q\np\n"), [P, ("not", Q), P])

    def test_every_formula_again(self):
        chance = random.Random(30)
        for count in range(400):
            formulas = [random_formula(chance, chance.randrange(1, 7)) for row in range(chance.randrange(4))]
            self.assertEqual(understood(shown(formulas)), formulas)

    def test_the_same_again_and_the_askers_own(self):
        first = understood("p\nq\n")
        first.append(R)
        self.assertEqual(understood("p\nq\n"), [P, Q])
        self.assertEqual(first, [P, Q, R])


class Form(unittest.TestCase):
    def refuse(self, row, wanted=NoProblem):
        self.assertEqual(refusal(understood, row + "\n"), wanted, row)
        self.assertEqual(refusal(understood, "p\n" + row + "\nq\n"), wanted, row)

    def test_bare_rows_and_line_ends(self):
        self.refuse("")
        for text in ("\n", "p", "p\nq", "\np\n", "p\n\n", "p\n\nq\n", " \n", "p\r\n", "p\n\r\n", "always"):
            self.assertEqual(refusal(understood, text), NoProblem, text)

    def test_blanks_and_brackets(self):
        for row in (" p", "p ", "p q", "(p)", "()", "(p and q", "p and q)", "p and q", "((p and q))", "(p  and q)",
                    "(p and  q)", "( p and q)", "(p and q )", "(pand q)", "(p andq)", "(p and q) ", "(p and q or r)",
                    "(p and q and r)", "(p)and(q)", "notp q", "not  p", "(not p)", "not(p)", "a=b", "a =b",
                    "a= b", "a  = b", "a =  b", "a = ", " = a", "= a", "a =", "a = b = c", "(a = b)", "(a = b) ",
                    "f(a)", "f(a, b)", "(f(a) and p)", "not f(a)", "f() = a", "f(a,b) = a", "f(a , b) = a",
                    "f( a) = a", "f(a ) = a", "f (a) = a", "f(a)) = a", "f((a)) = a", "f(a = a", "f(a, ) = a",
                    "f(a)(b) = a", "(a) = b", "f(not a) = b", "f(a = b) = c", "unlike(a, b) ", "unlike (a, b)",
                    "unlike(a,b)", "unlike(a, b", "unlike(a, b))", "unlike()", "unlike(a, b, )", "unlike(a = b, c)",
                    "unlike(p and q, a)", "(p AND q)", "(p & q)", "(p if q)", "(and)", "( and )", "(p and )",
                    "( and p)",
                    "p\tq", "\tp", "a\t=\tb", "P", "p1", "a_b", "p.", "p,", "p;", "(p,q)", "not\tp"):
            self.refuse(row)

    def test_signs_that_stand_nowhere(self):
        for code in list(range(32, 127)) + [9]:
            sign = chr(code)
            if not sign.islower():
                for row in (sign, "p" + sign, sign + "p", "p" + sign + "q", f"(p {sign} q)", f"a {sign} b",
                            f"f{sign}a) = b", f"f(a{sign} = b"):
                    if row not in ("a = b", "f(a) = b"):
                        self.refuse(row)

    def test_unlike(self):
        self.refuse("unlike(a)")
        self.refuse("unlike(f(a, b))")
        self.refuse("unlike(a, b, c, d, e, f)")
        self.refuse("unlike(a, a)")
        self.refuse("unlike(a, b, a)")
        self.refuse("unlike(b, a, c, d, a)")
        self.refuse("unlike(f(a), g(a), f(a))")
        self.refuse("not (p or unlike(a, a))")
        self.refuse("(unlike(a) and p)")
        self.assertEqual(len(understood("unlike(a, b, c, d, e)\n")[0][1]), 5)
        self.assertEqual(len(understood("unlike(f(a), f(b))\n")[0][1]), 2)

    def test_trees_of_three_and_of_four(self):
        self.assertEqual(understood("f(a, a, a) = a\n"), [("same", ("f", (A, A, A)), A)])
        self.refuse("f(a, a, a, a) = a")
        self.refuse("a = f(a, a, a, a)")
        self.refuse("g(f(a, a, a, a)) = a")
        self.refuse("unlike(a, f(a, a, a, a))")
        self.refuse("not (p and a = g(a, f(a, b, c, d), b))")

    def test_how_deep_formulas_may_be(self):
        self.assertEqual(len(understood("not " * 19 + "p\n")), 1)
        self.refuse("not " * 20 + "p")
        self.assertEqual(len(understood("not " * 19 + "always\n")), 1)
        self.refuse("not " * 20 + "never")
        self.assertEqual(len(understood("not " * 18 + "a = b\n")), 1)
        self.refuse("not " * 19 + "a = b")
        self.assertEqual(len(understood("not " * 17 + "f(a) = b\n")), 1)
        self.assertEqual(len(understood("not " * 17 + "b = f(a)\n")), 1)
        self.refuse("not " * 18 + "f(a) = b")
        self.refuse("not " * 18 + "b = f(a)")
        self.assertEqual(len(understood("not " * 18 + "unlike(a, b)\n")), 1)
        self.refuse("not " * 19 + "unlike(a, b)")
        self.refuse("not " * 18 + "unlike(a, f(b))")
        self.assertEqual(len(understood("(" * 19 + "p" + " and q)" * 19 + "\n")), 1)
        self.refuse("(" * 20 + "p" + " and q)" * 20)
        self.assertEqual(len(understood("(q or " * 19 + "p" + ")" * 19 + "\n")), 1)
        self.refuse("(q or " * 20 + "p" + ")" * 20)
        self.assertEqual(len(understood("(q as not " * 9 + "not p" + ")" * 9 + "\n")), 1)
        self.refuse("(q as not " * 9 + "not not p" + ")" * 9)

    def test_how_deep_trees_may_be(self):
        self.assertEqual(len(understood(deep_tree(19) + " = a\n")), 1)
        self.assertEqual(len(understood("a = " + deep_tree(19) + "\n")), 1)
        self.refuse(deep_tree(20) + " = a")
        self.refuse("a = " + deep_tree(20))
        self.refuse(deep_tree(21) + " = a")
        self.refuse(deep_tree(25) + " = a")
        self.assertEqual(len(understood("unlike(a, " + deep_tree(19) + ")\n")), 1)
        self.refuse("unlike(a, " + deep_tree(20) + ")")
        self.assertEqual(len(understood("(p then " + deep_tree(18) + " = a)\n")), 1)
        self.refuse("(p then " + deep_tree(19) + " = a)")
        for before, behind in (("", ", b"), ("b, ", ""), ("b, ", ", b")):
            self.assertEqual(len(understood(f"g({before}{deep_tree(18)}{behind}) = a\n")), 1)
            self.refuse(f"g({before}{deep_tree(19)}{behind}) = a")
            self.assertEqual(len(understood(f"unlike(g({before}{deep_tree(18)}{behind}), a)\n")), 1)
            self.refuse(f"unlike(a, g({before}{deep_tree(19)}{behind}))")

    def test_far_too_deep(self):
        for many in (100, 5000):
            self.refuse("not " * many + "p")
            self.refuse("(" * many + "p" + " and q)" * many)
            self.refuse("(q or " * many + "p" + ")" * many)
            self.refuse(deep_tree(many) + " = a")
            self.refuse("(" * many)
            self.refuse("unlike(" * many)


class Words(unittest.TestCase):
    def refuse(self, row):
        self.assertEqual(refusal(understood, row + "\n"), BadName, row)

    def test_plain_names(self):
        for word in KEPT + ("abcdefghi", "z" * 50):
            if word not in ("always", "never"):
                self.refuse(word)
                self.refuse("not " + word)
                self.refuse(f"(p and {word})")
                if word != "not":
                    self.refuse(f"({word} and p)")
                    self.refuse(f"({word} as {word})")

    def test_names_in_trees(self):
        for word in KEPT + ("abcdefghi",):
            self.refuse(f"a = {word}")
            self.refuse(f"a = {word}(b)")
            self.refuse(f"f({word}) = a")
            self.refuse(f"f(a, {word}(b)) = a")
            self.refuse(f"unlike(a, {word})")
            self.refuse(f"unlike({word}(b), a)")
            if word not in ("not", "unlike"):
                self.refuse(f"{word} = a")
                self.refuse(f"{word}(b) = a")
        self.refuse("not(b) = a")
        self.refuse("unlike = a")

    def test_the_form_of_the_whole_text_ahead(self):
        for text in ("or\np q\n", "p q\nor\n", "or\np", "a = or\n\n", "not or\nunlike(a, a)\n", "abcdefghi\nf(a)\n",
                     "as = f(a, b, c, d)\n", "or\n" + "not " * 20 + "p\n", "unlike(or, or)\n", "unlike(or)\n"):
            self.assertEqual(refusal(understood, text), NoProblem, text)

    def test_a_later_row(self):
        self.assertEqual(refusal(understood, "p\na = b\n(p and or)\n"), BadName)

    def test_one_of_the_two_where_it_is_not_promised_which(self):
        for row in ("not = a", "(not or p)", "unlike(a, b) = c", "(not = a and p)", "unlike(a) = b"):
            self.assertIn(refusal(understood, row + "\n"), (BadName, NoProblem), row)


class ByHand(unittest.TestCase):
    def check(self, row):
        found = readings(row)
        if not found:
            # Where it is not promised which of the two comes, either may.
            wanted = [NoProblem, BadName] if readings(row, True) else [NoProblem]
        else:
            self.assertEqual(len(found), 1, row)
            wanted = [None] if all(map(is_named, words(found[0]))) else [BadName]
        self.assertIn(refusal(understood, row + "\n"), wanted, row)
        if wanted == [None]:
            self.assertEqual(understood(row + "\n"), [found[0]])

    def test_all_short_rows(self):
        pieces = ("p", "not ", "(", ")", " and ", " = ", ", ", "unlike(", "f(", "always", "as", " as ", " ")
        for many in range(1, 5):
            for taken in itertools.product(pieces, repeat=many):
                self.check("".join(taken))

    def test_rows_of_some_pieces(self):
        pieces = ("p", "not ", "(", ")", " or ", " = ", ", b", "unlike(", "f(a")
        for taken in itertools.product(pieces, repeat=5):
            if sum(piece.count("(") for piece in taken) == sum(piece.count(")") for piece in taken):
                self.check("".join(taken))

    def test_rows_with_one_sign_changed(self):
        chance = random.Random(300)
        for count in range(1500):
            row = shown([random_formula(chance, chance.randrange(2, 5))])[:-1]
            if len(row) < 80:
                place = chance.randrange(len(row) + 1)
                sign = chance.choice(("", " ", "(", ")", ",", "=", "a", "not ", "or", "1", ", "))
                self.check(row[:place] + sign + row[place + chance.randrange(2):])


if __name__ == "__main__":
    unittest.main()
