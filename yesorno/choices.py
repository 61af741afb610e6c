"""Choices: what they are, how they come of held parts, and which rows hold by them."""

from yesorno.clashes import same_links
from yesorno.joins import heads


class Choice:
    def __init__(self, plain, tables):
        self.plain = plain
        self.tables = tables


def sign_of(term, values):
    return (term[0], tuple([values[part] for part in term[1]]))


def chosen(problem, held):
    plain = {}
    for number, atom in enumerate(problem.atoms, start=1):
        if atom[0] == "plain":
            plain[atom[1]] = number in held
    values = heads(len(problem.terms), same_links(problem, held))
    # Links join all terms of one sign, so no sign gets two values.
    tables = {}
    for term, value in zip(problem.terms, values):
        tables[sign_of(term, values)] = value
    return Choice(plain, tables)


def valued(problem, choice):
    values = []
    for term in problem.terms:
        values.append(choice.tables.get(sign_of(term, values), 0))
    return values


def atom_holds(atom, choice, values):
    if atom[0] == "plain":
        return choice.plain.get(atom[1], False)
    return values[atom[1]] == values[atom[2]]


def part_holds(problem, part, choice, values):
    return atom_holds(problem.atoms[abs(part) - 1], choice, values) == (part > 0)


def tried(problem, choice):
    values = valued(problem, choice)
    for number, row in enumerate(problem.rows):
        if not any([part_holds(problem, part, choice, values) for part in row]):
            return number
    return None
