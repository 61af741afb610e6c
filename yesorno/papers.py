"""Whether a paper is let by: the form of its lines, and whether each of them is right."""

from yesorno.lines import is_equal, is_learnt


def is_number(thing):
    # Truths are numbers to Python, but not in a paper.
    return isinstance(thing, int) and not isinstance(thing, bool)


def are_parts(problem, parts):
    if not isinstance(parts, tuple):
        return False
    atoms = {}
    for part in parts:
        if not is_number(part) or part == 0 or abs(part) > len(problem.atoms) or abs(part) in atoms:
            return False
        atoms[abs(part)] = True
    return True


def are_numbers(things):
    return isinstance(things, tuple) and all([is_number(thing) and thing >= 0 for thing in things])


def are_links(things):
    return isinstance(things, tuple) and all([are_numbers(thing) and len(thing) == 3 for thing in things])


def is_right(problem, rows, line):
    if not isinstance(line, tuple) or len(line) != 3:
        return False
    if not isinstance(line[0], str) or not are_parts(problem, line[1]):
        return False
    if line[0] == "learnt":
        return are_numbers(line[2]) and is_learnt(rows, line[1], line[2])
    if line[0] == "equal":
        return are_links(line[2]) and is_equal(problem, line[1], line[2])
    return False


def fault(problem, paper):
    if not isinstance(paper, list):
        return 0
    rows = list(problem.rows)
    for place, line in enumerate(paper):
        if not is_right(problem, rows, line):
            return place
        rows.append(line[1])
    if len(paper) == 0 or len(paper[-1][1]) > 0:
        return len(paper)
    return None


def lets_by(problem, paper):
    return fault(problem, paper) is None
