"""Point 10: how a text is read to a problem."""

import itertools
import re
import unittest

from helping import KEPT, fields, names, refusal
from yesorno.errors import BadName, BadTerm, NoProblem, TooMany
from yesorno.problems import Problem, is_name
from yesorno.reading import read
from yesorno.words import written


def nested(deep):
    return "f(" * deep + "a" + ")" * deep


class Ordinary(unittest.TestCase):
    def test_the_empty_text(self):
        self.assertIs(type(read("")), Problem)
        self.assertEqual(fields(read("")), ([], [], []))

    def test_plain_rows(self):
        problem = read("p or not q\nq\nnot p\n")
        self.assertEqual(fields(problem), ([], [("plain", "p"), ("plain", "q")], [(1, -2), (2,), (-1,)]))

    def test_never(self):
        self.assertEqual(fields(read("never\n")), ([], [], [()]))
        self.assertEqual(fields(read("never\np\nnever\n")), ([], [("plain", "p")], [(), (1,), ()]))

    def test_the_order_of_adding(self):
        problem = read("p or f(a, g(b)) = c\nh(c, a) = k or not q\nq or b = d\n")
        self.assertEqual(problem.terms, [
            ("a", ()), ("b", ()), ("g", (1,)), ("f", (0, 2)), ("c", ()),
            ("h", (4, 0)), ("k", ()), ("d", ())])
        self.assertEqual(problem.atoms, [
            ("plain", "p"), ("same", 3, 4), ("same", 5, 6), ("plain", "q"), ("same", 1, 7)])
        self.assertEqual(problem.rows, [(1, 2), (3, -4), (4, 5)])

    def test_the_left_term_comes_first(self):
        problem = read("b = a\nnot f(d, c) = e\n")
        self.assertEqual(problem.terms,
                         [("b", ()), ("a", ()), ("d", ()), ("c", ()), ("f", (2, 3)), ("e", ())])
        self.assertEqual(problem.atoms, [("same", 0, 1), ("same", 4, 5)])
        self.assertEqual(problem.rows, [(1,), (-2,)])

    def test_samenesses_in_either_order(self):
        problem = read("b = a\na = b\nnot a = b or a = a\n")
        self.assertEqual(problem.terms, [("b", ()), ("a", ())])
        self.assertEqual(problem.atoms, [("same", 0, 1), ("same", 1, 1)])
        self.assertEqual(problem.rows, [(1,), (1,), (-1, 2)])

    def test_parts_told_twice_and_opposite_parts(self):
        problem = read("p or q or p or not p or q\n")
        self.assertEqual(problem.rows, [(1, 2, -1)])

    def test_names_of_terms_and_plain_names_are_apart(self):
        problem = read("a or a = a(a)\n")
        self.assertEqual(fields(problem),
                         ([("a", ()), ("a", (0,))], [("plain", "a"), ("same", 0, 1)], [(1, 2)]))

    def test_names_that_begin_with_kept_words(self):
        problem = read("nots or orn or nevers or not knot\n")
        self.assertEqual(problem.atoms,
                         [("plain", "nots"), ("plain", "orn"), ("plain", "nevers"), ("plain", "knot")])
        self.assertEqual(problem.rows, [(1, 2, 3, -4)])

    def test_three_parts(self):
        problem = read("f(a, b, c) = f\n")
        self.assertEqual(problem.terms,
                         [("a", ()), ("b", ()), ("c", ()), ("f", (0, 1, 2)), ("f", ())])

    def test_asked_again_the_same_and_each_its_own(self):
        text = "f(a) = b or not p\nnever\n"
        one = read(text)
        other = read(text)
        self.assertEqual(fields(one), fields(other))
        one.add_row([1])
        self.assertEqual(len(other.rows), 2)
        self.assertEqual(fields(read(text)), fields(other))


class Form(unittest.TestCase):
    def no_problem(self, *texts):
        for text in texts:
            self.assertIs(refusal(read, text), NoProblem, repr(text))
            self.assertIs(refusal(read, "p\n" + text), NoProblem, repr(text))

    def test_line_ends(self):
        self.no_problem("p", "p\nq", "never", "a = b", "p\n\n", "\n", "\np\n", "p\n\nq\n", "never\n\n",
                        "p\r\n", " \n", "\t\n")
        self.assertIs(refusal(read, " "), NoProblem)

    def test_blanks(self):
        self.no_problem(" p\n", "p \n", "p  or q\n", "p or  q\n", "not  p\n", "not p \n", " not p\n",
                        " never\n", "never \n", "a =  b\n", "a  = b\n", "a=b\n", "a= b\n", "a =b\n",
                        "f (a) = b\n", "f( a) = b\n", "f(a ) = b\n", "f(a,b) = c\n", "f(a , b) = c\n",
                        "f(a,  b) = c\n", "f(a)  = b\n", "p q\n", "p\tor\tq\n", "not\tp\n")

    def test_signs(self):
        self.no_problem("P\n", "p1\n", "p.\n", "-p\n", "p_q\n", "p-q\n", "1\n", "p, q\n", "p;\n",
                        "a == b\n", "a != b\n", "a = B\n", "a = 1\n", "f[a] = b\n", "f(a; b) = c\n",
                        "f(A) = b\n", "#p\n", "p | q\n", "\u00e4\n", "a = \u00e4\n", "f(\u00e4) = a\n")

    def test_brackets(self):
        self.no_problem("f()\n", "f() = a\n", "a = f()\n", "f(a)\n", "not f(a)\n", "(p)\n", "f(a = b\n",
                        "f(a)) = b\n", "(a) = b\n", "f(a)(b) = c\n", "f((a)) = b\n", "f(a), = b\n",
                        "f(a, ) = b\n", "f(, a) = b\n", "f(a, , b) = c\n", "f) = a\n", "f( = a\n",
                        "a = f(b\n", "a = f(b))\n", "(a = b)\n", "not(p)\n", "f(a)g = b\n", "f(a) g = b\n",
                        "f(g(a) = b\n", "f(a = b) = c\n")

    def test_samenesses(self):
        self.no_problem("a = b = c\n", "a = \n", " = a\n", " = \n", "=\n", "a =\n", "= a\n", "a = = b\n",
                        "a = not b\n", "not a = not b\n", "a = b or\n", "f(not a) = b\n")

    def test_parts_and_rows(self):
        self.no_problem("p or\n", "or p\n", "p or \n", " or p\n", " or \n", "p or or q\n", "p or  or q\n",
                        "not \n", "not not not\n", "not not p\n", "p not q\n", "p and q\n", "p or not \n",
                        "(p or q)\n", "f(a or b) = c\n", "never p\n", "p never\n", "not never p\n")

    def test_cut_at_each_or_from_the_left(self):
        self.no_problem("not or or p\n", "a = or or p\n", "p or or q\n", "not or = a\n")
        for text in ("p or or or q\n", "or or or\n", "not or or or p\n", "not or\n", "or\n", "p or or = a\n",
                     "p or or\n", "or or p\n"):
            self.assertIs(refusal(read, text), BadName, text)

    def test_brackets_deep(self):
        problem = read(nested(20) + " = " + nested(20) + "\n")
        self.assertEqual(len(problem.terms), 21)
        self.assertEqual(problem.terms[20], ("f", (19,)))
        self.assertEqual(problem.atoms, [("same", 20, 20)])
        self.no_problem(nested(21) + " = a\n", "a = " + nested(21) + "\n", "not a = " + nested(21) + "\n",
                        "g(a, " + nested(20) + ") = b\n", nested(5000) + " = a\n", "f(" * 5000 + " = a\n")

    def test_only_brackets_within_one_another_count(self):
        text = "h(" + nested(19) + ", " + nested(19) + ", g(a)) = " + nested(20) + "\n"
        self.assertEqual(len(read(text).terms), 23)

    def test_form_is_looked_at_first(self):
        late = ("q", "f()\n", "p or\n", "\n", "f(a)\n", nested(21) + " = a\n")
        early = ["not not\n", "or\n", "p or never\n", "abcdefghi\n", "f(a, b, c, d) = a\n",
                 " or ".join(["p"] * 21) + "\n", "p\n" * 201, "".join([name + "\n" for name in names(41)])]
        for text in early:
            self.assertIsNotNone(refusal(read, text))
            for other in late:
                self.assertIs(refusal(read, text + other), NoProblem, other)
        self.assertIs(refusal(read, "not or p()\n"), NoProblem)
        self.assertIs(refusal(read, "or = f()\n"), NoProblem)


class Adding(unittest.TestCase):
    def refused(self, error, *texts):
        for text in texts:
            self.assertIs(refusal(read, text), error, repr(text))

    def test_bad_names(self):
        self.refused(BadName, "not not\n", "not\n", "or\n", "p or never\n", "never or p\n", "not never\n",
                     "never or never\n", "abcdefghi\n", "a = abcdefghi\n", "abcdefghi(a) = a\n",
                     "f(abcdefghi) = a\n", "and = a\n", "f(never) = a\n", "never(a) = a\n", "always\n",
                     "a = never\n", "a = not\n", "never = a\n", "unlike(a, b) = c\n")
        for word in KEPT:
            self.refused(BadName, "a = " + word + "\n", "f(a, " + word + ") = b\n",
                         word + "(a) = b\n", "not " + word + "\n", "p or " + word + "\n",
                         word + " = a\n")
            if word != "never":
                self.refused(BadName, word + "\n")
            if word != "or":
                self.refused(BadName, "not " + word + " = a\n")

    def test_long_words(self):
        self.assertEqual(read("abcdefgh\n").atoms, [("plain", "abcdefgh")])
        self.refused(BadName, "a" * 9 + "\n", "a" * 2000 + "\n")

    def test_not_may_stand_for_a_term_as_far_as_form_goes(self):
        self.refused(BadName, "not = a\n", "not not = a\n", "p or not = not\n", "not(a) = b\n",
                     "not not(a) = b\n")
        self.refused(NoProblem, "not = \n", "not = = a\n", "not = a = b\n")

    def test_bad_terms(self):
        self.refused(BadTerm, "f(a, b, c, d) = a\n", "a = f(a, a, a, a)\n", "f(g(a, b, c, d)) = a\n",
                     "p or not f(a, b, c, d, e) = a\n", "f(" + ", ".join(names(30)) + ") = a\n")

    def test_from_the_left(self):
        four = "f(a, b, c, d)"
        self.refused(BadTerm, four + " = or\n", four + " = a or not\n", four + " = a\nor\n",
                     "g(" + four + ", or) = a\n", "or(" + four + ") = a\n")
        self.refused(BadName, "or = " + four + "\n", "not or " + four + " = a\n", "or\n" + four + " = a\n",
                     "f(a, b, c, or) = a\n", "g(or, " + four + ") = a\n", "or(a, b, c, d) = a\n")

    def test_too_many_terms(self):
        rows = ["f(" + name + ") = " + name + "\n" for name in names(30)]
        text = "".join(rows)
        self.assertEqual(len(read(text).terms), 60)
        self.refused(TooMany, text + "new = new\n", text + "f = aa\nor\n")
        self.assertEqual(len(read(text + "f(aa) = aa\n").terms), 60)
        self.refused(BadName, text + "or = new\n", text + "or(aa) = new\n")
        self.refused(BadTerm, text + "f(aa, aa, aa, aa) = new\n")
        self.refused(TooMany, text + "new = or\n", text + "f(aa, aa, aa, new) = aa\n")

    def test_too_many_atoms(self):
        text = "".join([name + "\n" for name in names(40)])
        self.assertEqual(len(read(text).atoms), 40)
        self.assertEqual(len(read(text + "not aa\n").rows), 41)
        self.refused(TooMany, text + "new\n", text + "a = a\n", text + "new or or\n", text + "aa or new\nor\n")
        self.refused(BadName, text + "or or new\n", text + "aa or or\n")
        self.refused(BadTerm, text + "f(a, a, a, a) = a or new\n")

    def test_too_many_parts(self):
        twenty = " or ".join(names(20))
        self.assertEqual(read(twenty + "\n").rows, [tuple(range(1, 21))])
        self.refused(TooMany, twenty + " or new\n", twenty + " or aa\n", " or ".join(["p"] * 21) + "\n")
        self.assertEqual(read(" or ".join(["p"] * 20) + "\n").rows, [(1,)])
        self.refused(BadName, twenty + " or new or or\n")
        self.refused(TooMany, twenty + " or new\nor\n")

    def test_too_many_rows(self):
        self.assertEqual(len(read("p\n" * 200).rows), 200)
        self.assertEqual(read("never\n" * 200).rows, [()] * 200)
        self.refused(TooMany, "p\n" * 201, "never\n" * 201, "p\n" * 200 + "never\n", "p\n" * 201 + "or\n")
        self.refused(BadName, "p\n" * 200 + "or\n")


class Whole(unittest.TestCase):
    def test_written_and_read_again(self):
        texts = ["", "never\n", "p\n", "p or p or not p\n", "a = b or b = a\nb = a\n",
                 "f(a, g(b)) = c or not q\nnever\nq or c = f(a, g(b)) or q\n",
                 "b = a\nnot a = b or a = a\nf(b, a, b) = f\nf or f(f) = f(f, f)\n",
                 nested(20) + " = " + nested(3) + "\n", "p\n" * 200,
                 " or ".join(["p"] * 20) + "\n", "".join([name + "\n" for name in names(40)]),
                 "".join(["f(" + name + ") = " + name + "\n" for name in names(30)])]
        for text in texts:
            problem = read(text)
            again = read(written(problem))
            self.assertEqual(fields(again), fields(problem), text)
            self.assertEqual(written(again), written(problem), text)

    def test_what_is_written_so_already_stays(self):
        for text in ("", "never\n", "f(a, g(b)) = c or not q\nnever\nq or c = d\n", "not a = b or p\n"):
            self.assertEqual(written(read(text)), text)

    def test_a_term_of_a_thousand_words(self):
        tree = "a"
        for count in range(8):
            tree = "f(" + tree + ", " + tree + ")"
        text = " or ".join([tree + " = b"] * 20) + "\n"
        problem = read(text)
        self.assertEqual(len(problem.terms), 10)
        self.assertEqual(problem.rows, [(1,)])
        self.assertEqual(written(problem), tree + " = b\n")


WORD = "[a-z]+"
TREE = WORD
for level in range(3):
    TREE = WORD + r"(?:\(" + TREE + "(?:, " + TREE + r")*\))?"
PART = re.compile("(?:not )?(?:" + WORD + "|" + TREE + " = " + TREE + ")", re.ASCII)


def cut(row):
    parts = []
    place = row.find(" or ")
    while place >= 0:
        parts.append(row[:place])
        row = row[place + 4:]
        place = row.find(" or ")
    return parts + [row]


def expected(text):
    """What reading a short text comes to: told by patterns, apart from the program's own way."""
    if text and text[-1] != "\n":
        return NoProblem
    rows = [row for row in text.split("\n")[:-1] if row != "never"]
    parts = [part for row in rows for part in cut(row)]
    if not all(PART.fullmatch(part) for part in parts):
        return NoProblem
    for part in parts:
        atom = part[4:] if re.match("not [a-z]", part) else part
        if not all(is_name(word) for word in re.findall("[a-z]+", atom)):
            return BadName
    return None


class AllShortTexts(unittest.TestCase):
    def compare(self, tokens, most):
        for length in range(most + 1):
            for chosen in itertools.product(tokens, repeat=length):
                text = "".join(chosen)
                self.assertIs(refusal(read, text + "\n"), expected(text + "\n"), repr(text))

    def test_all_of_words_and_blanks(self):
        self.compare(("p", "not", "or", "never", " ", "=", "\n"), 6)

    def test_all_of_terms(self):
        self.compare(("a", "f(", ")", ", ", " = ", " or ", "not "), 6)


if __name__ == "__main__":
    unittest.main()
