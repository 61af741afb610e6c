"""From text to text: the answer to a problem, and whether a paper is let by for it."""

from yesorno.answers import answer
from yesorno.choices import valued
from yesorno.papers import lets_by
from yesorno.reading import read
from yesorno.scripts import read_paper, shown_paper
from yesorno.words import shown_term


def agreed(text, paper_text):
    problem = read(text)
    return lets_by(problem, read_paper(paper_text))


def plain_rows(problem, choice):
    names = [atom[1] for atom in problem.atoms if atom[0] == "plain"]
    return [name + (" holds" if choice.plain[name] else " does not hold") for name in names]


def term_rows(problem, choice):
    return [shown_term(problem, number) + " is " + str(value) for number, value in enumerate(valued(problem, choice))]


def told(text, most=2000):
    problem = read(text)
    found = answer(problem, most)
    if found[0] == "no":
        return "no\n" + shown_paper(found[1])
    rows = ["yes"] + plain_rows(problem, found[1]) + term_rows(problem, found[1])
    return "".join([row + "\n" for row in rows])
