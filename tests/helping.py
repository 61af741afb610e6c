"""What several test files use."""

import itertools
import string

from yesorno.errors import ChoiceError
from yesorno.problems import Problem

KEPT = ("or", "and", "not", "never", "always", "then", "as", "unlike")


def names(many):
    """So many names of two letters, none of them a kept word."""
    pairs = itertools.product(string.ascii_lowercase, repeat=2)
    words = ["".join(pair) for pair in pairs]
    return [word for word in words if word not in KEPT][:many]


def refusal(call, *arguments):
    """The class of the refusal that a call ends with, None where it is not refused."""
    try:
        call(*arguments)
    except ChoiceError as error:
        assert isinstance(error, ValueError)
        return type(error)
    return None


def fields(problem):
    """The three lists as they are by now, copied."""
    return (list(problem.terms), list(problem.atoms), list(problem.rows))


def problem_of(terms=0, atoms=0, rows=0):
    """A problem of so many terms without parts, plain atoms, and rows without parts."""
    problem = Problem()
    for name in names(terms):
        problem.add_term(name, ())
    for name in names(atoms):
        problem.add_plain(name)
    for count in range(rows):
        problem.add_row(())
    return problem


def classes(terms, given):
    """For each term the least one that is the same where the given pairs are, found by hand."""
    same = list(range(len(terms)))

    def merge(one, other):
        low, high = sorted((same[one], same[other]))
        same[:] = [low if head == high else head for head in same]

    for one, other in given:
        merge(one, other)
    changed = True
    while changed:
        changed = False
        for one, other in itertools.combinations(range(len(terms)), 2):
            alike = [(name, [same[part] for part in parts]) for name, parts in (terms[one], terms[other])]
            if same[one] != same[other] and alike[0] == alike[1]:
                merge(one, other)
                changed = True
    return same


def components(pairs, many):
    """For each term below many the least one that hangs together with it by pairs."""
    return classes([(str(number), ()) for number in range(many)], pairs)


def random_terms(chance, many, names="abcfg"):
    """Terms as a problem has them, no two alike; one name may come with several counts of parts."""
    terms = []
    while len(terms) < many:
        name = chance.choice(names)
        parts = tuple(chance.randrange(len(terms)) for count in range(chance.randrange(4) if terms else 0))
        if (name, parts) not in terms:
            terms.append((name, parts))
        elif len(parts) == 0:
            names = names + chance.choice(string.ascii_lowercase)
    return terms


def random_pairs(chance, many, terms):
    return [(chance.randrange(terms), chance.randrange(terms)) for count in range(many)]
