"""Point 35, and point 3 as far as it touches it."""

import copy
import itertools
import random
import re
import unittest

from helping import diamonds, holes, refusal
from yesorno.errors import BadPaper, ChoiceError
from yesorno.scripts import read_paper, shown_paper
from yesorno.search import search

PAIRS = [
    ("", []),
    ("learnt none by none\n", [("learnt", (), ())]),
    ("equal none by none\n", [("equal", (), ())]),
    ("learnt none by 0\n", [("learnt", (), (0,))]),
    ("learnt 1 by 0 1\n", [("learnt", (1,), (0, 1))]),
    ("learnt -1 2 -30 by 12 0 12\n", [("learnt", (-1, 2, -30), (12, 0, 12))]),
    ("learnt 1 by none\n", [("learnt", (1,), ())]),
    ("equal 4 -3 by 0-1-3 2-3-0\n", [("equal", (4, -3), ((0, 1, 3), (2, 3, 0)))]),
    ("equal 6 by none\n", [("equal", (6,), ())]),
    ("equal none by 0-0-0\n", [("equal", (), ((0, 0, 0),))]),
    ("learnt 1 1 -1 by 999\n", [("learnt", (1, 1, -1), (999,))]),
    ("equal -7 7 7 by 100-200-300 100-200-300\n", [("equal", (-7, 7, 7), ((100, 200, 300), (100, 200, 300)))]),
    ("learnt 999999999 -999999999 by 999999999\n", [("learnt", (999999999, -999999999), (999999999,))]),
    ("equal 123456789 by 987654321-100000000-1\n", [("equal", (123456789,), ((987654321, 100000000, 1),))]),
    ("learnt 10 by 20\nlearnt -10 by 21\nequal 1 by none\nlearnt none by 22 23\n",
     [("learnt", (10,), (20,)), ("learnt", (-10,), (21,)), ("equal", (1,), ()), ("learnt", (), (22, 23))]),
]

NUMBER = "(?:0|[1-9][0-9]{0,8})"
PART = "-?[1-9][0-9]{0,8}"
LINK = f"{NUMBER}-{NUMBER}-{NUMBER}"
ROW = re.compile(f"learnt (none|{PART}(?: {PART})*) by (none|{NUMBER}(?: {NUMBER})*)|"
                 f"equal (none|{PART}(?: {PART})*) by (none|{LINK}(?: {LINK})*)")


def is_paper(text):
    rows = text.split("\n")
    return rows.pop() == "" and all(ROW.fullmatch(row) for row in rows)


class Shown(unittest.TestCase):
    def test_pairs(self):
        for text, paper in PAIRS:
            kept = copy.deepcopy(paper)
            self.assertEqual(shown_paper(paper), text)
            self.assertEqual(paper, kept)
            self.assertEqual(shown_paper(paper), text)

    def test_papers_of_the_search(self):
        for problem in (holes(2, 3), holes(3, 4), diamonds(2)):
            paper = search(problem)[1]
            self.assertTrue(is_paper(shown_paper(paper)))
            self.assertEqual(read_paper(shown_paper(paper)), paper)


class Read(unittest.TestCase):
    def refuse(self, row):
        self.assertEqual(refusal(read_paper, row + "\n"), BadPaper, row)
        self.assertEqual(refusal(read_paper, "learnt 1 by 0\n" + row + "\nequal 1 by none\n"), BadPaper, row)

    def test_pairs(self):
        for text, paper in PAIRS:
            self.assertEqual(read_paper(text), paper)

    def test_kinds(self):
        paper = read_paper("learnt 1 -2 by 0 1\nequal 4 -3 by 0-1-3 2-3-0\nlearnt none by none\n")
        self.assertIs(type(paper), list)
        for line in paper:
            self.assertEqual([type(thing) for thing in (line,) + line], [tuple, str, tuple, tuple])
        self.assertTrue(all(type(number) is int for number in paper[0][1] + paper[0][2] + paper[1][1]))
        self.assertTrue(all(type(link) is tuple for link in paper[1][2]))
        self.assertTrue(all(type(number) is int for link in paper[1][2] for number in link))

    def test_noughts(self):
        for row in ("learnt 0 by 1", "learnt -0 by 1", "learnt 1 0 by 1", "learnt 1 -0 by 1", "equal 0 by none",
                    "equal -0 by none", "learnt 01 by 1", "learnt -01 by 1", "learnt 1 by 00", "learnt 1 by 01",
                    "learnt 1 by 0 00", "equal 1 by 00-1-2", "equal 1 by 0-01-2", "equal 1 by 0-1-02",
                    "learnt 00 by 1"):
            self.refuse(row)

    def test_ten_figures(self):
        for row in ("learnt 1000000000 by 1", "learnt -1000000000 by 1", "learnt 1 by 1000000000",
                    "equal 1 by 1000000000-0-0", "equal 1 by 0-1000000000-0", "equal 1 by 0-0-1000000000",
                    "learnt 0000000001 by 1", "learnt " + "9" * 5000 + " by 1"):
            self.refuse(row)

    def test_below_nought(self):
        for row in ("learnt 1 by -1", "learnt 1 by 0 -1", "learnt 1 by -0", "equal 1 by -1-0-2", "equal 1 by 0--1-2",
                    "equal 1 by 0-1--2", "learnt --1 by 0", "learnt - by 0", "learnt 1- by 0", "learnt +1 by 0",
                    "learnt 1 by +1", "equal 1 by 0-1-+2"):
            self.refuse(row)

    def test_links(self):
        for row in ("equal 1 by 0-1", "equal 1 by 0-1-2-3", "equal 1 by 0", "equal 1 by 0 1 2", "equal 1 by -",
                    "equal 1 by --", "equal 1 by 0-1-", "equal 1 by -1-2", "equal 1 by 0-1-2 ",
                    "equal 1 by 0-1-2, 1-2-3",
                    "equal 1 by 0-1-2 none", "learnt 1 by 0-1-2", "equal 1 by 0 -1-2", "equal 1 by (0, 1, 2)"):
            self.refuse(row)

    def test_none_beside_others(self):
        for row in ("learnt none 1 by 0", "learnt 1 none by 0", "learnt none none by 0", "learnt 1 by none 0",
                    "learnt 1 by 0 none", "learnt None by 0", "learnt  by 0", "learnt by 0", "learnt 1 by ",
                    "learnt 1 by", "learnt none by", "equal by none", "learnt -none by 0"):
            self.refuse(row)

    def test_blanks(self):
        for row in (" learnt 1 by 0", "learnt 1 by 0 ", "learnt  1 by 0", "learnt 1  by 0", "learnt 1 by  0",
                    "learnt 1  2 by 0", "learnt 1 by 0  1", "learnt1 by 0", "learnt 1by 0", "learnt 1 by0",
                    "learnt\t1 by 0", "learnt 1\tby 0", "learnt 1 by\t0", "learnt 1 by 0\t", "learnt 1 by 0\r"):
            self.refuse(row)

    def test_other_words(self):
        for row in ("", " ", "learn 1 by 0", "Learnt 1 by 0", "equals 1 by none", "same 1 by 0", "1 by 0", "learnt",
                    "equal", "learnt 1 from 0", "learnt 1 by 0 by 1", "learnt 1 by by 0", "learnt by by 0", "none",
                    "learnt a by 0", "learnt 1 by a", "learnt 1.0 by 0", "learnt 1,2 by 0", "learnt 1 by 0,1",
                    "learnt 1 By 0", "learnt equal 1 by 0", "learnt 1 2", "by", " by ", "learnt 1_0 by 0",
                    "learnt 0x1 by 0", "equal 1 by 0-1-2 by 1", "p or q"):
            self.refuse(row)

    def test_line_ends(self):
        for text in ("\n", "learnt 1 by 0", "learnt 1 by 0\n\n", "\nlearnt 1 by 0\n", "learnt 1 by 0\nlearnt 1 by 0",
                     "learnt 1 by 0\n\nlearnt 1 by 0\n", "learnt 1 by 0\r\n", "learnt 1\nby 0\n", " ", "none\n"):
            self.assertEqual(refusal(read_paper, text), BadPaper, text)

    def test_other_figures(self):
        for sign in ("\u0661", "\u00b2", "\uff11"):
            self.refuse(f"learnt {sign} by 0")
            self.refuse(f"learnt 1 by {sign}")

    def test_every_sign(self):
        for code in [9] + list(range(32, 127)):
            for row in ("learnt 1# by 0", "learnt #1 by 0", "learnt 1 by 0#", "equal 1 by 0-1#2", "#learnt 1 by 0",
                        "equal 1 by 0-1-2#3-4-5", "learnt 1#by 0"):
                text = row.replace("#", chr(code)) + "\n"
                self.assertIs(refusal(read_paper, text), None if is_paper(text) else BadPaper, text)

    def test_short_texts_of_pieces(self):
        pieces = ("1", "0", "-", " ", "none", " by ", "learnt ", "equal ", "\n")
        for many in range(7):
            for taken in itertools.product(pieces, repeat=many) if many < 5 else \
                    itertools.product(("learnt ", "equal "), pieces, pieces, (" by ", "1"), pieces, ("\n", "1", "0")):
                text = "".join(taken)
                self.assertIs(refusal(read_paper, text), None if is_paper(text) else BadPaper, text)
                if is_paper(text):
                    self.assertEqual(shown_paper(read_paper(text)), text)

    def test_by_chance(self):
        chance = random.Random(35)
        for count in range(500):
            paper = []
            for line in range(chance.randrange(4)):
                parts = tuple(chance.choice((1, -1)) * chance.randrange(1, 10 ** chance.randrange(1, 10))
                              for part in range(chance.randrange(4)))
                links = tuple(tuple(chance.randrange(50) for number in range(3)) for link in range(chance.randrange(3)))
                hints = tuple(chance.randrange(10 ** chance.randrange(1, 10)) for hint in range(chance.randrange(4)))
                paper.append(chance.choice((("learnt", parts, hints), ("equal", parts, links))))
            text = shown_paper(paper)
            self.assertTrue(is_paper(text), text)
            self.assertEqual(read_paper(text), paper)

    def test_its_class(self):
        with self.assertRaises(BadPaper) as taken:
            read_paper("learnt")
        self.assertIsInstance(taken.exception, ChoiceError)
        self.assertIsInstance(taken.exception, ValueError)

    def test_the_same_again_and_the_askers_own(self):
        text = "learnt 1 by 0\n"
        first = read_paper(text)
        first.clear()
        self.assertEqual(read_paper(text), [("learnt", (1,), (0,))])
        self.assertEqual(first, [])
        read_paper("").append(1)
        self.assertEqual(read_paper(""), [])


if __name__ == "__main__":
    unittest.main()
