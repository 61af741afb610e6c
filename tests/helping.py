"""What several test files use."""

import functools
import itertools
import re
import string

from yesorno.errors import ChoiceError
from yesorno.problems import Problem
from yesorno.reading import read

KEPT = ("or", "and", "not", "never", "always", "then", "as", "unlike")
BETWEEN = ("and", "or", "then", "as")


def names(many):
    """So many names of two letters, none of them a kept word."""
    pairs = itertools.product(string.ascii_lowercase, repeat=2)
    words = ["".join(pair) for pair in pairs]
    return [word for word in words if word not in KEPT][:many]


def refusal(call, *arguments):
    """The class of the refusal that a call ends with, None where it is not refused."""
    try:
        call(*arguments)
    except ChoiceError as error:
        assert isinstance(error, ValueError)
        return type(error)
    return None


def fields(problem):
    """The three lists as they are by now, copied."""
    return (list(problem.terms), list(problem.atoms), list(problem.rows))


def problem_of(terms=0, atoms=0, rows=0):
    """A problem of so many terms without parts, plain atoms, and rows without parts."""
    problem = Problem()
    for name in names(terms):
        problem.add_term(name, ())
    for name in names(atoms):
        problem.add_plain(name)
    for count in range(rows):
        problem.add_row(())
    return problem


def classes(terms, given):
    """For each term the least one that is the same where the given pairs are, found by hand."""
    same = list(range(len(terms)))

    def merge(one, other):
        low, high = sorted((same[one], same[other]))
        same[:] = [low if head == high else head for head in same]

    for one, other in given:
        merge(one, other)
    changed = True
    while changed:
        changed = False
        for one, other in itertools.combinations(range(len(terms)), 2):
            alike = [(name, [same[part] for part in parts]) for name, parts in (terms[one], terms[other])]
            if same[one] != same[other] and alike[0] == alike[1]:
                merge(one, other)
                changed = True
    return same


def components(pairs, many):
    """For each term below many the least one that hangs together with it by pairs."""
    return classes([(str(number), ()) for number in range(many)], pairs)


def random_terms(chance, many, names="abcfg"):
    """Terms as a problem has them, no two alike; one name may come with several counts of parts."""
    terms = []
    while len(terms) < many:
        name = chance.choice(names)
        parts = tuple(chance.randrange(len(terms)) for count in range(chance.randrange(4) if terms else 0))
        if (name, parts) not in terms:
            terms.append((name, parts))
        elif len(parts) == 0:
            names = names + chance.choice(string.ascii_lowercase)
    return terms


def random_pairs(chance, many, terms):
    return [(chance.randrange(terms), chance.randrange(terms)) for count in range(many)]


def learnt_by_hand(rows, parts, hints):
    """What 19 says, word by word."""
    held = {-part for part in parts}
    for place, hint in enumerate(hints):
        if hint >= len(rows):
            return False
        row = set(rows[hint])
        left = [part for part in row if -part not in held]
        if place == len(hints) - 1:
            return left == []
        if len(left) != 1 or left[0] in held:
            return False
        held.add(left[0])
    return False


def equal_by_hand(problem, parts, links):
    """What 20 says, word by word."""
    terms, atoms = problem.terms, problem.atoms
    for place, (one, other, how) in enumerate(links):
        if one >= len(terms) or other >= len(terms):
            return False
        if how > 0:
            if how > len(atoms) or atoms[how - 1] not in (("same", one, other), ("same", other, one)):
                return False
            if -how not in parts:
                return False
        else:
            ahead = components([link[:2] for link in links[:place]], len(terms))
            if [terms[one][0]] + [ahead[part] for part in terms[one][1]] != \
                    [terms[other][0]] + [ahead[part] for part in terms[other][1]]:
                return False
    whole = components([link[:2] for link in links], len(terms))
    wanted = [atoms[part - 1] for part in parts if part > 0 and atoms[part - 1][0] == "same"]
    return any(whole[one] == whole[other] for same, one, other in wanted)


def fault_by_hand(problem, paper):
    """What 21 says, of lines of the right form."""
    rows = list(problem.rows)
    for place, (word, parts, why) in enumerate(paper):
        right = learnt_by_hand(rows, parts, why) if word == "learnt" else equal_by_hand(problem, parts, why)
        if not right:
            return place
        rows.append(parts)
    return None if paper and paper[-1][1] == () else len(paper)


def clashing_atoms(problem, held):
    """The numbers of the atoms of two terms that are held to be other ones, but are the same."""
    pairs = [problem.atoms[part - 1][1:] for part in held if part > 0 and problem.atoms[part - 1][0] == "same"]
    same = classes(problem.terms, pairs)
    denied = sorted(-part for part in held if part < 0)
    return [atom for atom in denied if problem.atoms[atom - 1][0] == "same"
            and same[problem.atoms[atom - 1][1]] == same[problem.atoms[atom - 1][2]]]


def all_held(problem):
    """All tuples with a part for each atom by which each row has a held part and there is no clash."""
    found = []
    for signs in itertools.product((1, -1), repeat=len(problem.atoms)):
        held = tuple(sign * atom for sign, atom in zip(signs, range(1, len(signs) + 1)))
        if all(set(row) & set(held) for row in problem.rows) and not clashing_atoms(problem, held):
            found.append(held)
    return found


def random_problem(chance, terms=5, atoms=5, rows=9, longest=3, plain=2, shortest=1):
    """A problem of about so many atoms, of which some are plain, with rows of chance."""
    problem = Problem()
    for name, parts in random_terms(chance, terms, "abf") if terms else []:
        problem.add_term(name, parts)
    for count in range(atoms):
        if terms and count >= plain:
            problem.add_same(chance.randrange(terms), chance.randrange(terms))
        else:
            problem.add_plain("p" + string.ascii_lowercase[count])
    for count in range(rows):
        parts = [chance.choice((1, -1)) * chance.randrange(1, len(problem.atoms) + 1)
                 for part in range(chance.randrange(shortest, longest + 1))]
        problem.add_row(parts)
    return problem


def holes(many, more):
    """More things than holes, many of these: each thing in a hole, no two in one. There is no choice."""
    problem = Problem()
    inside = {}
    for thing, hole in itertools.product(range(more), range(many)):
        inside[thing, hole] = problem.add_plain("x" + string.ascii_lowercase[thing] + string.ascii_lowercase[hole])
    for thing in range(more):
        problem.add_row([inside[thing, hole] for hole in range(many)])
    for hole in range(many):
        for one, other in itertools.combinations(range(more), 2):
            problem.add_row([-inside[one, hole], -inside[other, hole]])
    return problem


def diamonds(many):
    """From each corner to the next one there are two ways, and yet the ends are held to be other ones."""
    rows = []
    for place in range(many):
        one, up, down, other = (letter + string.ascii_lowercase[place + later] for letter, later in
                                (("c", 0), ("u", 0), ("d", 0), ("c", 1)))
        for left in (f"{one} = {up}", f"{up} = {other}"):
            for right in (f"{one} = {down}", f"{down} = {other}"):
                rows.append(f"{left} or {right}\n")
    last = string.ascii_lowercase[many]
    return read("".join(rows) + f"not ca = c{last}\n")


@functools.lru_cache(maxsize=None)
def tree_lists(text):
    """All readings of trees with a comma and a blank between."""
    found = [(tree,) for tree in trees(text)]
    for place in range(len(text)):
        if text.startswith(", ", place):
            found += [(tree,) + rest for tree in trees(text[:place]) for rest in tree_lists(text[place + 2:])]
    return tuple(found)


@functools.lru_cache(maxsize=None)
def trees(text):
    if re.fullmatch("[a-z]+", text):
        return ((text, ()),)
    match = re.fullmatch(r"([a-z]+)\((.*)\)", text)
    return tuple((match[1], within) for within in tree_lists(match[2])) if match else ()


@functools.lru_cache(maxsize=None)
def readings(text, loose=False):
    """All readings of a formula; a loose one may begin with not and a blank, or unlike and a bracket, as names."""
    found = []
    if re.fullmatch("[a-z]+", text):
        found.append((text,) if text in ("always", "never") else ("plain", text))
    if loose or not re.match("not |unlike[(]", text):
        for place in range(len(text)):
            if text.startswith(" = ", place):
                found += [("same", one, other) for one in trees(text[:place]) for other in trees(text[place + 3:])]
    if text.startswith("not "):
        found += [("not", inner) for inner in readings(text[4:], loose)]
    if text.startswith("unlike(") and text.endswith(")"):
        found += [("unlike", within) for within in tree_lists(text[7:-1])]
    if text.startswith("(") and text.endswith(")"):
        for word in BETWEEN:
            for place in range(1, len(text)):
                if text.startswith(f" {word} ", place):
                    found += [(word, one, other) for one in readings(text[1:place], loose)
                              for other in readings(text[place + len(word) + 2:-1], loose)]
                    if loose and text[1:place] == "not":
                        found += [(word, ("plain", "not"), other)
                                  for other in readings(text[place + len(word) + 2:-1], loose)]
    return tuple(formula for formula in found if is_formed(formula))


def is_formed(formula):
    if formula[0] == "unlike":
        if not 2 <= len(formula[1]) <= 5 or len(set(formula[1])) < len(formula[1]):
            return False
    return depth(formula) <= 20 and all(widest(tree) <= 3 for tree in inner_trees(formula))


def inner_trees(formula):
    return formula[1:] if formula[0] == "same" else formula[1] if formula[0] == "unlike" else ()


def inner_formulas(formula):
    return formula[1:] if formula[0] in BETWEEN + ("not",) else ()


def widest(tree):
    return max([len(tree[1])] + [widest(part) for part in tree[1]])


def tree_depth(tree):
    return 1 + max([tree_depth(part) for part in tree[1]], default=0)


def depth(formula):
    within = [tree_depth(tree) for tree in inner_trees(formula)] + [depth(inner) for inner in inner_formulas(formula)]
    return 1 + max(within, default=0)


def tree_words(tree):
    return [tree[0]] + [word for part in tree[1] for word in tree_words(part)]


def plain_names(formula):
    """The plain names in a formula, as they stand."""
    if formula[0] == "plain":
        return [formula[1]]
    return [name for inner in inner_formulas(formula) for name in plain_names(inner)]


def words(formula):
    found = plain_names(formula) if formula[0] == "plain" else []
    found += [word for tree in inner_trees(formula) for word in tree_words(tree)]
    return found + [word for inner in inner_formulas(formula) for word in words(inner)]


def is_named(word):
    return len(word) <= 8 and word not in KEPT


def random_tree(chance, deep, names="abfg"):
    many = chance.choice((0, 0, 1, 2, 3)) if deep > 1 else 0
    return (chance.choice(names), tuple(random_tree(chance, deep - 1, names) for count in range(many)))


def random_formula(chance, deep, names="abfg", plain="pqr"):
    kind = chance.choice(("always", "never", "plain", "plain", "same", "same", "unlike", "not") + BETWEEN)
    if kind in ("always", "never"):
        return (kind,)
    if kind == "plain" or deep < 3:
        return ("plain", chance.choice(plain))
    if kind == "same":
        return ("same", random_tree(chance, deep - 1, names), random_tree(chance, deep - 1, names))
    if kind == "unlike":
        within = {random_tree(chance, deep - 1, names) for count in range(chance.randrange(2, 6))}
        return ("unlike", tuple(sorted(within))) if len(within) > 1 else ("always",)
    if kind == "not":
        return ("not", random_formula(chance, deep - 1, names, plain))
    return (kind, random_formula(chance, deep - 1, names, plain), random_formula(chance, deep - 1, names, plain))


def tree_value(tree, choice):
    sign = (tree[0], tuple(tree_value(part, choice) for part in tree[1]))
    return choice.tables[sign] if sign in choice.tables else 0


def holds(formula, choice):
    """Whether a formula holds by a choice, as 29 and 26 have it."""
    kind = formula[0]
    if kind in ("always", "never"):
        return kind == "always"
    if kind == "plain":
        return formula[1] in choice.plain and choice.plain[formula[1]]
    values = [tree_value(tree, choice) for tree in inner_trees(formula)]
    if kind == "same":
        return values[0] == values[1]
    if kind == "unlike":
        return len(set(values)) == len(values)
    truths = [holds(inner, choice) for inner in inner_formulas(formula)]
    if kind == "not":
        return not truths[0]
    return {"and": truths[0] and truths[-1], "or": truths[0] or truths[-1],
            "then": truths[-1] or not truths[0], "as": truths[0] == truths[-1]}[kind]
