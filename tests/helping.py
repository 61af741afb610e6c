"""What several test files use."""

import itertools
import string

from yesorno.errors import ChoiceError
from yesorno.problems import Problem
from yesorno.reading import read

KEPT = ("or", "and", "not", "never", "always", "then", "as", "unlike")


def names(many):
    """So many names of two letters, none of them a kept word."""
    pairs = itertools.product(string.ascii_lowercase, repeat=2)
    words = ["".join(pair) for pair in pairs]
    return [word for word in words if word not in KEPT][:many]


def refusal(call, *arguments):
    """The class of the refusal that a call ends with, None where it is not refused."""
    try:
        call(*arguments)
    except ChoiceError as error:
        assert isinstance(error, ValueError)
        return type(error)
    return None


def fields(problem):
    """The three lists as they are by now, copied."""
    return (list(problem.terms), list(problem.atoms), list(problem.rows))


def problem_of(terms=0, atoms=0, rows=0):
    """A problem of so many terms without parts, plain atoms, and rows without parts."""
    problem = Problem()
    for name in names(terms):
        problem.add_term(name, ())
    for name in names(atoms):
        problem.add_plain(name)
    for count in range(rows):
        problem.add_row(())
    return problem


def classes(terms, given):
    """For each term the least one that is the same where the given pairs are, found by hand."""
    same = list(range(len(terms)))

    def merge(one, other):
        low, high = sorted((same[one], same[other]))
        same[:] = [low if head == high else head for head in same]

    for one, other in given:
        merge(one, other)
    changed = True
    while changed:
        changed = False
        for one, other in itertools.combinations(range(len(terms)), 2):
            alike = [(name, [same[part] for part in parts]) for name, parts in (terms[one], terms[other])]
            if same[one] != same[other] and alike[0] == alike[1]:
                merge(one, other)
                changed = True
    return same


def components(pairs, many):
    """For each term below many the least one that hangs together with it by pairs."""
    return classes([(str(number), ()) for number in range(many)], pairs)


def random_terms(chance, many, names="abcfg"):
    """Terms as a problem has them, no two alike; one name may come with several counts of parts."""
    terms = []
    while len(terms) < many:
        name = chance.choice(names)
        parts = tuple(chance.randrange(len(terms)) for count in range(chance.randrange(4) if terms else 0))
        if (name, parts) not in terms:
            terms.append((name, parts))
        elif len(parts) == 0:
            names = names + chance.choice(string.ascii_lowercase)
    return terms


def random_pairs(chance, many, terms):
    return [(chance.randrange(terms), chance.randrange(terms)) for count in range(many)]


def learnt_by_hand(rows, parts, hints):
    """What 19 says, word by word."""
    held = {-part for part in parts}
    for place, hint in enumerate(hints):
        if hint >= len(rows):
            return False
        row = set(rows[hint])
        left = [part for part in row if -part not in held]
        if place == len(hints) - 1:
            return left == []
        if len(left) != 1 or left[0] in held:
            return False
        held.add(left[0])
    return False


def equal_by_hand(problem, parts, links):
    """What 20 says, word by word."""
    terms, atoms = problem.terms, problem.atoms
    for place, (one, other, how) in enumerate(links):
        if one >= len(terms) or other >= len(terms):
            return False
        if how > 0:
            if how > len(atoms) or atoms[how - 1] not in (("same", one, other), ("same", other, one)):
                return False
            if -how not in parts:
                return False
        else:
            ahead = components([link[:2] for link in links[:place]], len(terms))
            if [terms[one][0]] + [ahead[part] for part in terms[one][1]] != \
                    [terms[other][0]] + [ahead[part] for part in terms[other][1]]:
                return False
    whole = components([link[:2] for link in links], len(terms))
    wanted = [atoms[part - 1] for part in parts if part > 0 and atoms[part - 1][0] == "same"]
    return any(whole[one] == whole[other] for same, one, other in wanted)


def fault_by_hand(problem, paper):
    """What 21 says, of lines of the right form."""
    rows = list(problem.rows)
    for place, (word, parts, why) in enumerate(paper):
        right = learnt_by_hand(rows, parts, why) if word == "learnt" else equal_by_hand(problem, parts, why)
        if not right:
            return place
        rows.append(parts)
    return None if paper and paper[-1][1] == () else len(paper)


def clashing_atoms(problem, held):
    """The numbers of the atoms of two terms that are held to be other ones, but are the same."""
    pairs = [problem.atoms[part - 1][1:] for part in held if part > 0 and problem.atoms[part - 1][0] == "same"]
    same = classes(problem.terms, pairs)
    denied = sorted(-part for part in held if part < 0)
    return [atom for atom in denied if problem.atoms[atom - 1][0] == "same"
            and same[problem.atoms[atom - 1][1]] == same[problem.atoms[atom - 1][2]]]


def all_held(problem):
    """All tuples with a part for each atom by which each row has a held part and there is no clash."""
    found = []
    for signs in itertools.product((1, -1), repeat=len(problem.atoms)):
        held = tuple(sign * atom for sign, atom in zip(signs, range(1, len(signs) + 1)))
        if all(set(row) & set(held) for row in problem.rows) and not clashing_atoms(problem, held):
            found.append(held)
    return found


def random_problem(chance, terms=5, atoms=5, rows=9, longest=3, plain=2, shortest=1):
    """A problem of about so many atoms, of which some are plain, with rows of chance."""
    problem = Problem()
    for name, parts in random_terms(chance, terms, "abf") if terms else []:
        problem.add_term(name, parts)
    for count in range(atoms):
        if terms and count >= plain:
            problem.add_same(chance.randrange(terms), chance.randrange(terms))
        else:
            problem.add_plain("p" + string.ascii_lowercase[count])
    for count in range(rows):
        parts = [chance.choice((1, -1)) * chance.randrange(1, len(problem.atoms) + 1)
                 for part in range(chance.randrange(shortest, longest + 1))]
        problem.add_row(parts)
    return problem


def holes(many, more):
    """More things than holes, many of these: each thing in a hole, no two in one. There is no choice."""
    problem = Problem()
    inside = {}
    for thing, hole in itertools.product(range(more), range(many)):
        inside[thing, hole] = problem.add_plain("x" + string.ascii_lowercase[thing] + string.ascii_lowercase[hole])
    for thing in range(more):
        problem.add_row([inside[thing, hole] for hole in range(many)])
    for hole in range(many):
        for one, other in itertools.combinations(range(more), 2):
            problem.add_row([-inside[one, hole], -inside[other, hole]])
    return problem


def diamonds(many):
    """From each corner to the next one there are two ways, and yet the ends are held to be other ones."""
    rows = []
    for place in range(many):
        one, up, down, other = (letter + string.ascii_lowercase[place + later] for letter, later in
                                (("c", 0), ("u", 0), ("d", 0), ("c", 1)))
        for left in (f"{one} = {up}", f"{up} = {other}"):
            for right in (f"{one} = {down}", f"{down} = {other}"):
                rows.append(f"{left} or {right}\n")
    last = string.ascii_lowercase[many]
    return read("".join(rows) + f"not ca = c{last}\n")
