"""When a line of a paper is right, its form being so."""

from yesorno.joins import Groups
from yesorno.problems import once_each


def not_failing(row, held):
    return once_each([part for part in row if -part not in held])


def is_learnt(rows, parts, hints):
    if len(hints) == 0 or min(hints) < 0 or max(hints) >= len(rows):
        return False
    held = dict([(-part, True) for part in parts])
    for hint in hints[:-1]:
        left = not_failing(rows[hint], held)
        if len(left) != 1 or left[0] in held:
            return False
        held[left[0]] = True
    return len(not_failing(rows[hints[-1]], held)) == 0


def sameness(problem, number):
    # The two terms of an atom that says that they are the same, else None.
    if number < 1 or number > len(problem.atoms):
        return None
    atom = problem.atoms[number - 1]
    return atom[1:] if atom[0] == "same" else None


def is_told(problem, parts, link):
    if -link[2] not in parts:
        return False
    pair = sameness(problem, link[2])
    return pair == (link[0], link[1]) or pair == (link[1], link[0])


def is_alike(terms, link, groups):
    one = terms[link[0]]
    other = terms[link[1]]
    if one[0] != other[0] or len(one[1]) != len(other[1]):
        return False
    return all([groups.together(pair[0], pair[1]) for pair in zip(one[1], other[1])])


def is_right(problem, parts, link, groups):
    if min(link[:2]) < 0 or max(link[:2]) >= len(problem.terms):
        return False
    if link[2] == 0:
        return is_alike(problem.terms, link, groups)
    return is_told(problem, parts, link)


def says_joined(problem, part, groups):
    pair = sameness(problem, part)
    return pair is not None and groups.together(pair[0], pair[1])


def is_equal(problem, parts, links):
    groups = Groups()
    for link in links:
        if not is_right(problem, parts, link, groups):
            return False
        groups.merge(link[0], link[1])
    return any([says_joined(problem, part, groups) for part in parts])
