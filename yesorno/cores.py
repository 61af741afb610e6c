"""Rows that have no choice together, each of which is needed for that."""

from yesorno.choices import chosen
from yesorno.errors import HasChoice
from yesorno.search import search
from yesorno.trims import needed, part_of, trimmed


def core(problem, most=2000):
    found = search(problem, most)
    if found[0] == "yes":
        raise HasChoice("the problem has a choice")
    numbers = needed(problem, found[1])[0]
    # Rows are left out only as a search says no, so the last paper is one for the part that is left.
    paper = trimmed(problem, found[1])
    kept = numbers
    choices = []
    for number in reversed(numbers):
        others = tuple([other for other in kept if other != number])
        part = part_of(problem, others)
        found = search(part, most)
        if found[0] == "no":
            kept = others
            paper = found[1]
        else:
            choices.append(chosen(part, found[1]))
    return (kept, paper, list(reversed(choices)))
