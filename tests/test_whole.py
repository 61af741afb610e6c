"""Points 1 to 3 over the whole program: what comes with yes holds, what is let by is so, and nothing is changed."""

import copy
import random
import unittest

from helping import all_held, fields, holes, random_problem, refusal
from yesorno.answers import answer
from yesorno.asked import asked
from yesorno.choices import Choice, chosen, tried, valued
from yesorno.clashes import clash
from yesorno.cores import core
from yesorno.errors import ChoiceError, HasChoice, NoChoice
from yesorno.every import every
from yesorno.follows import follows, forced
from yesorno.formulas import shown
from yesorno.named import named
from yesorno.papers import fault, lets_by
from yesorno.reading import read
from yesorno.scripts import read_paper, shown_paper
from yesorno.search import search
from yesorno.told import agreed, told
from yesorno.trims import needed, part_of, trimmed
from yesorno.understood import understood
from yesorno.words import written


def plain_shape(thing):
    """What is told, as plain tuples, lists and dicts."""
    if isinstance(thing, Choice):
        return ("choice", list(thing.plain.items()), list(thing.tables.items()))
    if isinstance(thing, (tuple, list)):
        return (type(thing).__name__, [plain_shape(inner) for inner in thing])
    if hasattr(thing, "rows"):
        return ("problem",) + copy.deepcopy(fields(thing))
    return thing


def changed(chance, paper):
    """The paper with a thing of it changed: a line left out, moved or doubled, or a number in it."""
    paper = list(paper)
    place = chance.randrange(len(paper))
    word, parts, why = paper[place]
    way = chance.randrange(6)
    if way == 0:
        del paper[place]
    elif way == 1:
        paper.insert(chance.randrange(len(paper)), paper.pop(place))
    elif way == 2:
        paper[place] = (word, parts[1:], why)
    elif way == 3:
        paper[place] = (word, parts, why[1:])
    elif way == 4:
        paper[place] = (word, tuple(-part if chance.randrange(2) else part for part in parts), why)
    elif word == "learnt":
        paper[place] = (word, parts, tuple(max(0, hint + chance.randrange(-1, 2)) for hint in why))
    else:
        paper[place] = (word, parts, tuple(tuple(max(0, number + chance.randrange(-1, 2)) for number in link)
                                           for link in why))
    return paper


class Promise(unittest.TestCase):
    def problems(self, many, seed):
        chance = random.Random(seed)
        for count in range(many):
            yield random_problem(chance, terms=chance.choice((0, 3, 5)), atoms=chance.randrange(1, 7),
                                 rows=chance.randrange(26), shortest=chance.choice((1, 2)))

    def test_yes_or_no(self):
        for problem in self.problems(400, 1):
            word, found = answer(problem)
            if all_held(problem):
                self.assertEqual(word, "yes")
                self.assertIsNone(tried(problem, found))
            else:
                self.assertEqual(word, "no")
                self.assertTrue(lets_by(problem, found))

    def test_no_paper_is_let_by_where_there_is_a_choice(self):
        chance = random.Random(2)
        papers = []
        seen = [0, 0]
        for problem in self.problems(250, 3):
            held = all_held(problem)
            word, found = search(problem)
            if word == "no":
                papers.append(found)
            for paper in papers[-12:]:
                for count in range(6):
                    other = changed(chance, paper) if count else paper
                    fine = lets_by(problem, other)
                    self.assertFalse(fine and held, (fields(problem), other))
                    seen[fine] += 1
        self.assertGreater(min(seen), 100)

    def test_from_text_to_text(self):
        for problem in self.problems(200, 4):
            text = written(problem)
            answer_text = told(text)
            again = read(text)
            if answer_text.startswith("no\n"):
                self.assertEqual(all_held(again), [])
                self.assertIs(agreed(text, answer_text[3:]), True)
                paper = read_paper(answer_text[3:])
                part = part_of(again, needed(again, paper)[0])
                self.assertEqual(shown_paper(read_paper(answer_text[3:])), answer_text[3:])
                self.assertIsNone(fault(part, trimmed(again, paper)))
                # Atoms in no row of the part are not written, so its numbers may be other ones.
                self.assertEqual(told(written(part))[:3], "no\n")
            else:
                plain = {}
                values = []
                for row in answer_text.splitlines()[1:]:
                    if row.endswith(" holds"):
                        plain[row[:-len(" holds")]] = True
                    elif row.endswith(" does not hold"):
                        plain[row[:-len(" does not hold")]] = False
                    else:
                        values.append(int(row.split(" is ")[1]))
                tables = {}
                for (name, parts), value in zip(again.terms, values):
                    tables[name, tuple(values[part] for part in parts)] = value
                choice = Choice(plain, tables)
                self.assertEqual(valued(again, choice), values)
                self.assertIsNone(tried(again, choice))


class Stays(unittest.TestCase):
    def calls(self, problem, text):
        held = search(problem)[1] if search(problem)[0] == "yes" else None
        paper = search(problem)[1] if held is None else None
        found = [(search, problem), (answer, problem), (core, problem), (forced, problem), (every, problem, [1]),
                 (follows, problem, [-1]), (follows, problem, []), (written, problem), (told, written(problem)),
                 (part_of, problem, [0]), (clash, problem, [-1]), (read, written(problem)), (asked, text),
                 (understood, text), (named, understood(text)), (shown, understood(text))]
        if held is None:
            found += [(needed, problem, paper), (trimmed, problem, paper), (fault, problem, paper),
                      (shown_paper, paper), (read_paper, shown_paper(paper)),
                      (agreed, written(problem), shown_paper(paper))]
        else:
            found += [(chosen, problem, held), (valued, problem, chosen(problem, held)),
                      (tried, problem, chosen(problem, held))]
        return found

    def told_by(self, call, arguments):
        try:
            return call(*arguments)
        except ChoiceError as error:
            return type(error).__name__

    def test_what_was_told_stays_and_comes_again(self):
        problems = [read("p or a = b\nnot p or q\nnot f(a) = f(b) or r\n"), holes(2, 3),
                    read("a = b\nb = c\nnot f(a) = f(c)\np or q\n"), read("p\nnot q or p\n")]
        texts = ["(p and unlike(a, b))\nnot (q or r)\n", "(p as not p)\n", "", "((p then q) or a = f(b))\n"]
        calls = [call for problem, text in zip(problems, texts) for call in self.calls(problem, text)]
        before = [plain_shape(list(arguments)) for call, *arguments in calls]
        first = [self.told_by(call, arguments) for call, *arguments in calls]
        shapes = [plain_shape(thing) for thing in first]
        self.assertEqual([plain_shape(list(arguments)) for call, *arguments in calls], before)
        second = [self.told_by(call, arguments) for call, *arguments in reversed(calls)]
        self.assertEqual([plain_shape(thing) for thing in reversed(second)], shapes)
        for problem in problems:
            problem.add_plain("xyz")
            problem.add_row([1])
            problem.add_row([])
        for call, *arguments in calls:
            self.told_by(call, arguments)
        self.assertEqual([plain_shape(thing) for thing in first], shapes)

    def test_lists_that_are_given_out_are_new(self):
        problem = holes(2, 3)
        paper = search(problem)[1]
        for thing in (trimmed(problem, paper), answer(problem)[1], core(problem)[1], follows(problem, [])[1],
                      every(problem, [1])[2], read_paper(shown_paper(paper))):
            self.assertIsNot(thing, paper)
            thing.clear()
        self.assertEqual(search(problem)[1], paper)
        self.assertTrue(lets_by(problem, paper))

    def test_a_choice_for_each_asker(self):
        problem = read("p or a = b\n")
        one, other = answer(problem)[1], answer(problem)[1]
        self.assertIsNot(one.plain, other.plain)
        self.assertIsNot(one.tables, other.tables)
        self.assertEqual((one.plain, one.tables), (other.plain, other.tables))

    def test_refusals_leave_all_as_it_was(self):
        problem = read("p or q\n")
        kept = fields(problem)
        for call, *arguments in ((core, problem), (every, problem, [3]), (follows, problem, [1, 0]),
                                 (needed, problem, []), (trimmed, problem, [])):
            self.assertIsNotNone(refusal(call, *arguments))
            self.assertEqual(fields(problem), kept)
        self.assertEqual(refusal(core, problem), HasChoice)
        self.assertEqual(refusal(forced, read("never\n")), NoChoice)


if __name__ == "__main__":
    unittest.main()
