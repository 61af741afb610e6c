"""Point 33, and points 1 to 3 as far as they touch it."""

import random
import unittest

from helping import holds, names, plain_names, random_formula, refusal
from yesorno.answers import answer
from yesorno.asked import asked
from yesorno.choices import Choice
from yesorno.errors import BadName, NoProblem, TooLong, TooMany
from yesorno.formulas import shown
from yesorno.named import named
from yesorno.papers import lets_by
from yesorno.understood import understood

# Four things in three holes, as formulas: no two things in one hole.
HOLES = "".join(f"(({thing}a or {thing}b) or {thing}c)\n" for thing in "pqrs") + "".join(
    f"not ({one}{hole} and {other}{hole})\n" for one, other in ("pq", "pr", "ps", "qr", "qs", "rs") for hole in "abc")


class Asked(unittest.TestCase):
    def check(self, text, wanted=None, most=2000):
        formulas = understood(text)
        problem = named(formulas)
        told = asked(text, most)
        self.assertIs(type(told), tuple)
        if wanted is not None:
            self.assertEqual(told[0], wanted)
        word, found = answer(problem, most)
        self.assertEqual(told[0], word)
        if word == "no":
            self.assertEqual(told, ("no", found))
            self.assertTrue(lets_by(problem, told[1]))
        else:
            choice = told[1]
            self.assertIsInstance(choice, Choice)
            plain = {name for formula in formulas for name in plain_names(formula)}
            self.assertEqual(list(choice.plain.items()),
                             [(name, truth) for name, truth in found.plain.items() if name in plain])
            self.assertEqual(set(choice.plain), plain)
            self.assertEqual(choice.tables, found.tables)
            for formula in formulas:
                self.assertTrue(holds(formula, choice), formula)
        return told

    def test_nothing(self):
        told = self.check("", "yes")
        self.assertEqual((told[1].plain, told[1].tables), ({}, {}))

    def test_yes(self):
        self.assertEqual(self.check("p\nnot q\n", "yes")[1].plain, {"p": True, "q": False})
        self.assertEqual(self.check("(p and not q)\n", "yes")[1].plain, {"p": True, "q": False})
        self.check("(p as not q)\nunlike(a, b, f(a))\n", "yes")
        self.check("(a = b then p)\nnot p\n", "yes")
        self.check("always\n", "yes")
        self.check("not never\n", "yes")

    def test_no(self):
        self.check("never\n", "no")
        self.check("(p and not p)\n", "no")
        self.check("not (p or not p)\n", "no")
        self.check("a = b\nunlike(f(a), f(b))\n", "no")
        self.check("not (a = b or unlike(a, b))\n", "no")
        self.check("((p then q) and (p and not q))\n", "no")
        self.check("(p as q)\n(q as r)\n(p as not r)\n", "no")
        self.check(HOLES, "no")

    def test_names_of_new_atoms_are_left_out(self):
        told = self.check("(p or always)\n", "yes")
        self.assertEqual(list(told[1].plain), ["p"])
        told = self.check("(zb or (za and always))\nnot zb\n", "yes")
        self.assertEqual(sorted(told[1].plain), ["za", "zb"])
        self.assertEqual(told[1].plain, {"zb": False, "za": True})
        self.assertEqual(self.check("unlike(a, b)\n", "yes")[1].plain, {})

    def test_the_order_of_plain_names(self):
        told = self.check("((r and p) and not q)\n", "yes")
        self.assertEqual(list(told[1].plain.items()), [("r", True), ("p", True), ("q", False)])

    def test_by_chance(self):
        chance = random.Random(33)
        seen = {"yes": 0, "no": 0}
        for count in range(500):
            formulas = [random_formula(chance, chance.randrange(2, 6), "abf", ("p", "q", "za"))
                        for row in range(chance.randrange(1, 5))]
            if refusal(named, formulas) is None and refusal(asked, shown(formulas)) is None:
                seen[self.check(shown(formulas))[0]] += 1
        self.assertGreater(min(seen.values()), 50)

    def test_as_many_lines_as_the_paper_has(self):
        for text in (HOLES, "(p as q)\n(q as r)\n(p as not r)\n"):
            told = asked(text)
            lines = len(told[1])
            self.assertEqual(asked(text, lines), told)
            self.assertEqual(asked(text, most=100000), told)
            if lines > 1:
                self.assertEqual(refusal(asked, text, lines - 1), TooLong)
        self.assertEqual(refusal(asked, HOLES, 1), TooLong)

    def test_refused(self):
        for text in ("p", "p q\n", "\n", "unlike(a, a)\n", "f(a)\n", "or\np q\n"):
            self.assertEqual(refusal(asked, text), NoProblem, text)
        for text in ("or\n", "a = as\n", "abcdefghi\n"):
            self.assertEqual(refusal(asked, text), BadName, text)
        self.assertEqual(refusal(asked, "p\n" * 201), TooMany)
        self.assertEqual(asked("p\n" * 200)[0], "yes")
        forty = "".join(name + "\n" for name in names(40))
        self.assertEqual(asked(forty)[0], "yes")
        self.assertEqual(refusal(asked, forty + "always\n"), TooMany)
        self.assertEqual(refusal(asked, "p\n" * 201 + "or\n"), BadName)
        self.assertEqual(refusal(asked, "p\n" * 201 + "p"), NoProblem)
        self.assertEqual(refusal(asked, HOLES + "p\n" * 201, 1), TooMany)

    def test_the_same_again(self):
        text = "((p or q) and unlike(a, b))\n"
        first = asked(text)
        kept = dict(first[1].plain), dict(first[1].tables)
        second = asked(text)
        self.assertEqual((second[1].plain, second[1].tables), kept)
        second[1].plain.clear()
        second[1].tables.clear()
        self.assertEqual((first[1].plain, first[1].tables), kept)
        paper = asked(HOLES)[1]
        whole = list(paper)
        paper.clear()
        self.assertEqual(asked(HOLES), ("no", whole))


if __name__ == "__main__":
    unittest.main()
