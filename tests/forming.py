"""What the tests of formulas use: their reading by hand, and formulas by chance."""

import functools
import re

from helping import KEPT

BETWEEN = ("and", "or", "then", "as")
NAMES = ("p", "q", "a", "b", "f", "g", "none", "za", "abcdefgh")


@functools.lru_cache(maxsize=None)
def tree_lists(text):
    """All readings of trees with a comma and a blank between."""
    found = [(tree,) for tree in trees(text)]
    for place in range(len(text)):
        if text.startswith(", ", place):
            found += [(tree,) + rest for tree in trees(text[:place]) for rest in tree_lists(text[place + 2:])]
    return tuple(found)


@functools.lru_cache(maxsize=None)
def trees(text):
    if re.fullmatch("[a-z]+", text):
        return ((text, ()),)
    match = re.fullmatch(r"([a-z]+)\((.*)\)", text)
    return tuple((match[1], within) for within in tree_lists(match[2])) if match else ()


@functools.lru_cache(maxsize=None)
def readings(text, loose=False):
    """All readings of a formula; a loose one may begin with not and a blank, or unlike and a bracket, as names."""
    found = []
    if re.fullmatch("[a-z]+", text):
        found.append((text,) if text in ("always", "never") else ("plain", text))
    if loose or not re.match("not |unlike[(]", text):
        for place in range(len(text)):
            if text.startswith(" = ", place):
                found += [("same", one, other) for one in trees(text[:place]) for other in trees(text[place + 3:])]
    if text.startswith("not "):
        found += [("not", inner) for inner in readings(text[4:], loose)]
    if text.startswith("unlike(") and text.endswith(")"):
        found += [("unlike", within) for within in tree_lists(text[7:-1])]
    if text.startswith("(") and text.endswith(")"):
        for word in BETWEEN:
            for place in range(1, len(text)):
                if text.startswith(f" {word} ", place):
                    found += [(word, one, other) for one in readings(text[1:place], loose)
                              for other in readings(text[place + len(word) + 2:-1], loose)]
                    if loose and text[1:place] == "not":
                        found += [(word, ("plain", "not"), other)
                                  for other in readings(text[place + len(word) + 2:-1], loose)]
    return tuple(formula for formula in found if is_formed(formula))


def is_formed(formula):
    if formula[0] == "unlike":
        if not 2 <= len(formula[1]) <= 5 or len(set(formula[1])) < len(formula[1]):
            return False
    return depth(formula) <= 20 and all(widest(tree) <= 3 for tree in inner_trees(formula))


def inner_trees(formula):
    return formula[1:] if formula[0] == "same" else formula[1] if formula[0] == "unlike" else ()


def inner_formulas(formula):
    return formula[1:] if formula[0] in BETWEEN + ("not",) else ()


def widest(tree):
    return max([len(tree[1])] + [widest(part) for part in tree[1]])


def tree_depth(tree):
    return 1 + max([tree_depth(part) for part in tree[1]], default=0)


def depth(formula):
    within = [tree_depth(tree) for tree in inner_trees(formula)] + [depth(inner) for inner in inner_formulas(formula)]
    return 1 + max(within, default=0)


def tree_words(tree):
    return [tree[0]] + [word for part in tree[1] for word in tree_words(part)]


def plain_names(formula):
    """The plain names in a formula, as they stand."""
    if formula[0] == "plain":
        return [formula[1]]
    return [name for inner in inner_formulas(formula) for name in plain_names(inner)]


def words(formula):
    found = plain_names(formula) if formula[0] == "plain" else []
    found += [word for tree in inner_trees(formula) for word in tree_words(tree)]
    return found + [word for inner in inner_formulas(formula) for word in words(inner)]


def is_named(word):
    return len(word) <= 8 and word not in KEPT


def random_tree(chance, deep, names="abfg"):
    many = chance.choice((0, 0, 1, 2, 3)) if deep > 1 else 0
    return (chance.choice(names), tuple(random_tree(chance, deep - 1, names) for count in range(many)))


def random_formula(chance, deep, names="abfg", plain="pqr"):
    kind = chance.choice(("always", "never", "plain", "plain", "same", "same", "unlike", "not") + BETWEEN)
    if kind in ("always", "never") and deep > 0:
        return (kind,)
    if kind == "plain" or deep < 3:
        return ("plain", chance.choice(plain))
    if kind == "same":
        return ("same", random_tree(chance, deep - 1, names), random_tree(chance, deep - 1, names))
    if kind == "unlike":
        within = {random_tree(chance, deep - 1, names) for count in range(chance.randrange(2, 6))}
        return ("unlike", tuple(sorted(within))) if len(within) > 1 else ("always",)
    if kind == "not":
        return ("not", random_formula(chance, deep - 1, names, plain))
    return (kind, random_formula(chance, deep - 1, names, plain), random_formula(chance, deep - 1, names, plain))


def tree_value(tree, choice):
    sign = (tree[0], tuple(tree_value(part, choice) for part in tree[1]))
    return choice.tables[sign] if sign in choice.tables else 0


def holds(formula, choice):
    """Whether a formula holds by a choice, as 29 and 26 have it."""
    kind = formula[0]
    if kind in ("always", "never"):
        return kind == "always"
    if kind == "plain":
        return formula[1] in choice.plain and choice.plain[formula[1]]
    values = [tree_value(tree, choice) for tree in inner_trees(formula)]
    if kind == "same":
        return values[0] == values[1]
    if kind == "unlike":
        return len(set(values)) == len(values)
    truths = [holds(inner, choice) for inner in inner_formulas(formula)]
    if kind == "not":
        return not truths[0]
    return {"and": truths[0] and truths[-1], "or": truths[0] or truths[-1],
            "then": truths[-1] or not truths[0], "as": truths[0] == truths[-1]}[kind]
