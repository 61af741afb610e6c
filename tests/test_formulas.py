"""Points 29 and 30 as far as they speak of how formulas are written, and point 3 as far as it touches it."""

import copy
import random
import unittest

from helping import random_formula, readings
from yesorno.formulas import shown

P, Q, R = ("plain", "p"), ("plain", "q"), ("plain", "r")
A, B, C = ("a", ()), ("b", ()), ("c", ())


class Shown(unittest.TestCase):
    def check(self, formula, text):
        self.assertEqual(shown([formula]), text + "\n")

    def test_no_formulas(self):
        self.assertEqual(shown([]), "")

    def test_simple_ones(self):
        self.check(("always",), "always")
        self.check(("never",), "never")
        self.check(P, "p")
        self.check(("plain", "abcdefgh"), "abcdefgh")

    def test_samenesses(self):
        self.check(("same", A, B), "a = b")
        self.check(("same", B, A), "b = a")
        self.check(("same", A, A), "a = a")
        self.check(("same", ("f", (A,)), ("g", (A, ("f", (B, C, A))))), "f(a) = g(a, f(b, c, a))")

    def test_unlike(self):
        self.check(("unlike", (A, B)), "unlike(a, b)")
        self.check(("unlike", (B, A, ("f", (A, B)), C, ("g", (C,)))), "unlike(b, a, f(a, b), c, g(c))")

    def test_not(self):
        self.check(("not", P), "not p")
        self.check(("not", ("not", P)), "not not p")
        self.check(("not", ("same", A, B)), "not a = b")
        self.check(("not", ("unlike", (A, B))), "not unlike(a, b)")
        self.check(("not", ("and", P, Q)), "not (p and q)")
        self.check(("not", ("always",)), "not always")

    def test_of_two(self):
        for word in ("and", "or", "then", "as"):
            self.check((word, P, Q), f"(p {word} q)")
            self.check((word, Q, P), f"(q {word} p)")
            self.check((word, ("not", P), ("same", A, B)), f"(not p {word} a = b)")
            self.check((word, (word, P, Q), R), f"((p {word} q) {word} r)")
            self.check((word, P, ("or", Q, ("never",))), f"(p {word} (q or never))")

    def test_row_by_row(self):
        self.assertEqual(shown([P, ("not", Q), P]), "p\nnot q\np\n")

    def test_by_chance(self):
        chance = random.Random(29)
        for count in range(300):
            formula = random_formula(chance, chance.randrange(1, 5))
            text = shown([formula])
            self.assertTrue(text.endswith("\n"))
            self.assertEqual(readings(text[:-1]), (formula,))

    def test_what_is_handed_in_stays(self):
        formulas = [("and", P, ("same", A, ("f", (B,)))), ("unlike", (A, B))]
        kept = copy.deepcopy(formulas)
        text = shown(formulas)
        self.assertEqual(formulas, kept)
        self.assertEqual(shown(formulas), text)
        formulas.clear()
        self.assertEqual(text, "(p and a = f(b))\nunlike(a, b)\n")


if __name__ == "__main__":
    unittest.main()
