"""The answer to a problem: yes with a choice, or no with a paper."""

from yesorno.choices import chosen
from yesorno.search import search


def answer(problem, most=2000):
    told = search(problem, most)
    if told[0] == "yes":
        return ("yes", chosen(problem, told[1]))
    return told
