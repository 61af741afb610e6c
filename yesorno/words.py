"""How terms, parts and whole problems are written."""


def shown_term(problem, number):
    term = problem.terms[number]
    if len(term[1]) == 0:
        return term[0]
    within = ", ".join([shown_term(problem, part) for part in term[1]])
    return term[0] + "(" + within + ")"


def shown_atom(problem, number):
    # Atoms are numbered from 1, the list's places from 0.
    atom = problem.atoms[number - 1]
    if atom[0] == "plain":
        return atom[1]
    return shown_term(problem, atom[1]) + " = " + shown_term(problem, atom[2])


def shown_part(problem, part):
    if part < 0:
        return "not " + shown_atom(problem, -part)
    return shown_atom(problem, part)


def shown_row(problem, row):
    if len(row) == 0:
        return "never"
    return " or ".join([shown_part(problem, part) for part in row])


def written(problem):
    return "".join([shown_row(problem, row) + "\n" for row in problem.rows])
