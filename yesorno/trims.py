"""What a paper needs of the rows and of its lines, and the paper of that alone."""

from yesorno.errors import BadPaper
from yesorno.papers import lets_by
from yesorno.problems import Problem


def needed_numbers(many, paper):
    # Of rows, and of lines behind them; hints tell what is ahead, so one walk back finds all.
    found = {many + len(paper) - 1: True}
    for place in range(len(paper) - 1, -1, -1):
        if many + place in found and paper[place][0] == "learnt":
            found.update(dict([(hint, True) for hint in paper[place][2]]))
    return sorted(found)


def needed(problem, paper):
    if not lets_by(problem, paper):
        raise BadPaper("the paper is not let by")
    many = len(problem.rows)
    found = needed_numbers(many, paper)
    rows = tuple([number for number in found if number < many])
    return (rows, tuple([number - many for number in found if number >= many]))


def part_of(problem, numbers):
    part = Problem()
    part.terms.extend(problem.terms)
    part.atoms.extend(problem.atoms)
    part.rows.extend([problem.rows[number] for number in numbers])
    return part


def renumbered(line, places):
    if line[0] == "equal":
        return line
    return ("learnt", line[1], tuple([places[hint] for hint in line[2]]))


def trimmed(problem, paper):
    kept = needed(problem, paper)
    numbers = list(kept[0]) + [len(problem.rows) + place for place in kept[1]]
    places = dict([(number, place) for place, number in enumerate(numbers)])
    return [renumbered(paper[place], places) for place in kept[1]]
