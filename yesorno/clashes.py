"""Whether what is held of samenesses can be so."""

from yesorno.joins import heads, links
from yesorno.lines import sameness
from yesorno.ways import ways


def held_same(problem, held):
    return [part for part in held if sameness(problem, part) is not None]


def same_links(problem, held):
    return links(problem.terms, [sameness(problem, part) for part in held_same(problem, held)])


def clashing_atom(problem, held, found):
    least = heads(len(problem.terms), found)
    for atom in sorted([-part for part in held if part < 0]):
        pair = sameness(problem, atom)
        if pair is not None and least[pair[0]] == least[pair[1]]:
            return atom
    return None


def equal_line(problem, held, found, atom):
    told = held_same(problem, held)
    pair = sameness(problem, atom)
    needed = ways(problem.terms, found, pair[0], pair[1])
    marked = [(link[0], link[1], 0 if link[2] == -1 else told[link[2]]) for link in needed]
    parts = [atom] + [-link[2] for link in marked if link[2] > 0]
    return ("equal", tuple(parts), tuple(marked))


def clash(problem, held):
    found = same_links(problem, held)
    atom = clashing_atom(problem, held, found)
    if atom is None:
        return None
    return equal_line(problem, held, found, atom)
