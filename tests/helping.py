"""What several test files use."""

import itertools
import string

from yesorno.errors import ChoiceError
from yesorno.problems import Problem

KEPT = ("or", "and", "not", "never", "always", "then", "as", "unlike")


def names(many):
    """So many names of two letters, none of them a kept word."""
    pairs = itertools.product(string.ascii_lowercase, repeat=2)
    words = ["".join(pair) for pair in pairs]
    return [word for word in words if word not in KEPT][:many]


def refusal(call, *arguments):
    """The class of the refusal that a call ends with, None where it is not refused."""
    try:
        call(*arguments)
    except ChoiceError as error:
        assert isinstance(error, ValueError)
        return type(error)
    return None


def fields(problem):
    """The three lists as they are by now, copied."""
    return (list(problem.terms), list(problem.atoms), list(problem.rows))


def problem_of(terms=0, atoms=0, rows=0):
    """A problem of so many terms without parts, plain atoms, and rows without parts."""
    problem = Problem()
    for name in names(terms):
        problem.add_term(name, ())
    for name in names(atoms):
        problem.add_plain(name)
    for count in range(rows):
        problem.add_row(())
    return problem
