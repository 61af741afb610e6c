"""What follows from a problem: parts of which one holds by each choice by which all rows hold."""

from yesorno.answers import answer
from yesorno.choices import part_holds, valued
from yesorno.errors import NoChoice
from yesorno.problems import once_each
from yesorno.trims import part_of


def follows(problem, parts, most=2000):
    for part in parts:
        problem.ask_part(part)
    longer = part_of(problem, list(range(len(problem.rows))))
    for part in once_each(parts):
        longer.add_row([-part])
    found = answer(longer, most)
    return ("yes" if found[0] == "no" else "no", found[1])


def forced(problem, most=2000):
    found = answer(problem, most)
    if found[0] == "no":
        raise NoChoice("the problem has no choice")
    values = valued(problem, found[1])
    parts = []
    papers = []
    for atom in range(1, len(problem.atoms) + 1):
        part = atom if part_holds(problem, atom, found[1], values) else -atom
        told = follows(problem, [part], most)
        if told[0] == "yes":
            parts.append(part)
            papers.append(told[1])
    return (tuple(parts), papers)
