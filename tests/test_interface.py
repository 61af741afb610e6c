"""The names and arguments of the interface, as they stand in the document."""

import inspect
import unittest

from yesorno import answers, asked, choices, clashes, cores, every, follows, formulas, joins, learning, lines, named
from yesorno import papers, problems, reading, scripts, search, told, trims, understood, units, ways, words


def arguments(thing):
    return list(inspect.signature(thing).parameters)


def most(thing):
    return inspect.signature(thing).parameters["most"].default


class Interface(unittest.TestCase):
    def test_problems(self):
        problem = problems.Problem()
        self.assertEqual(arguments(problems.Problem), [])
        self.assertEqual(arguments(problem.add_term), ["name", "parts"])
        self.assertEqual(arguments(problem.add_plain), ["name"])
        self.assertEqual(arguments(problem.add_same), ["one", "other"])
        self.assertEqual(arguments(problem.add_row), ["parts"])
        self.assertEqual(arguments(problems.is_name), ["word"])

    def test_words(self):
        self.assertEqual(arguments(words.shown_term), ["problem", "number"])
        self.assertEqual(arguments(words.shown_part), ["problem", "part"])
        self.assertEqual(arguments(words.written), ["problem"])

    def test_reading(self):
        self.assertEqual(arguments(reading.read), ["text"])

    def test_joins_and_ways(self):
        self.assertEqual(arguments(joins.links), ["terms", "given"])
        self.assertEqual(arguments(joins.joined), ["links", "one", "other"])
        self.assertEqual(arguments(joins.heads), ["many", "links"])
        self.assertEqual(arguments(ways.ways), ["terms", "links", "one", "other"])

    def test_units(self):
        self.assertEqual(arguments(units.grown), ["rows", "trail"])
        self.assertEqual(arguments(units.levels), ["trail"])

    def test_lines(self):
        self.assertEqual(arguments(lines.is_learnt), ["rows", "parts", "hints"])
        self.assertEqual(arguments(lines.is_equal), ["problem", "parts", "links"])

    def test_papers(self):
        self.assertEqual(arguments(papers.fault), ["problem", "paper"])
        self.assertEqual(arguments(papers.lets_by), ["problem", "paper"])

    def test_learning(self):
        self.assertEqual(arguments(learning.learnt), ["rows", "trail", "fails"])

    def test_clashes_and_search(self):
        self.assertEqual(arguments(clashes.clash), ["problem", "held"])
        self.assertEqual(arguments(search.search), ["problem", "most"])
        self.assertEqual(most(search.search), 2000)

    def test_choices_and_answers(self):
        self.assertEqual(arguments(choices.Choice), ["plain", "tables"])
        self.assertEqual(arguments(choices.chosen), ["problem", "held"])
        self.assertEqual(arguments(choices.valued), ["problem", "choice"])
        self.assertEqual(arguments(choices.tried), ["problem", "choice"])
        self.assertEqual(arguments(answers.answer), ["problem", "most"])
        self.assertEqual(most(answers.answer), 2000)

    def test_formulas(self):
        self.assertEqual(arguments(formulas.shown), ["formulas"])
        self.assertEqual(arguments(understood.understood), ["text"])
        self.assertEqual(arguments(named.named), ["formulas"])
        self.assertEqual(arguments(asked.asked), ["text", "most"])
        self.assertEqual(most(asked.asked), 2000)

    def test_trims_and_scripts(self):
        self.assertEqual(arguments(trims.needed), ["problem", "paper"])
        self.assertEqual(arguments(trims.part_of), ["problem", "numbers"])
        self.assertEqual(arguments(trims.trimmed), ["problem", "paper"])
        self.assertEqual(arguments(scripts.shown_paper), ["paper"])
        self.assertEqual(arguments(scripts.read_paper), ["text"])

    def test_told(self):
        self.assertEqual(arguments(told.told), ["text", "most"])
        self.assertEqual(arguments(told.agreed), ["text", "paper_text"])
        self.assertEqual(most(told.told), 2000)

    def test_cores_every_and_follows(self):
        self.assertEqual(arguments(cores.core), ["problem", "most"])
        self.assertEqual(arguments(every.every), ["problem", "atoms", "most"])
        self.assertEqual(arguments(follows.follows), ["problem", "parts", "most"])
        self.assertEqual(arguments(follows.forced), ["problem", "most"])
        for thing in (cores.core, every.every, follows.follows, follows.forced):
            self.assertEqual(most(thing), 2000)

    def test_kinds(self):
        problem = problems.Problem()
        numbers = [problem.add_term("a", []), problem.add_plain("p"), problem.add_same(0, 0), problem.add_row([1])]
        self.assertEqual([type(number) for number in numbers], [int] * 4)
        texts = [words.shown_term(problem, 0), words.shown_part(problem, -1), words.written(problem)]
        self.assertEqual([type(text) for text in texts], [str] * 3)
        self.assertIs(type(reading.read("p\n")), problems.Problem)


if __name__ == "__main__":
    unittest.main()
